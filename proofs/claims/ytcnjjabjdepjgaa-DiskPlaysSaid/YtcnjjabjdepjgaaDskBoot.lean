/-
  Texts of earlier layers, as one.
-/
import Derived.Test.YtcnjjabjdepjgaaDskAppend
import Derived.Test.YtcnjjabjdepjgaaRBase
import Derived.Deep.RegionHeld
import Derived.Deep.Cut
import Derived.Lib.MinMax
/- The document's Boot. -/
namespace Go.Proofs.Ytcnjjabjdepjgaa.Dsk
open Go.RowKit Mem Cod

/-- How many bytes of a tail stay. -/
def stays (y : Nat) (ks : List Int) (k : Nat) : Nat := if 0 < y ∧ k < ks.length then (max 0 (min (ks.getD k 0) (y : Int))).toNat else y
theorem stays_le (y : Nat) (ks : List Int) (k : Nat) : stays y ks k ≤ y := by
  unfold stays
  split <;> omega
theorem bootFs_step (f : Fl) (r : List Fl) (ks : List Int) (k : Nat) : bootFs (f :: r) (ks.drop k) = ⟨f.nm, f.sure ++ f.tail.take (stays f.tail.length ks k), []⟩ :: bootFs r (ks.drop (if 0 < f.tail.length then k + 1 else k)) := by
  obtain ⟨nm, sure, tail⟩ := f
  rw [bootFs.eq_def]
  simp only
  by_cases h0 : tail = []
  · subst h0
    simp
  · have hp : 0 < tail.length := by cases tail; exact absurd rfl h0; simp
    rw [if_neg h0, if_pos hp]
    by_cases hk : k < ks.length
    · have hs : stays tail.length ks k = (max 0 (min (ks.getD k 0) (tail.length : Int))).toNat := by unfold stays; rw [if_pos ⟨hp, hk⟩]
      have hd : ks.drop k = ks.getD k 0 :: ks.drop (k + 1) := by rw [List.drop_eq_getElem_cons hk, List.getD_eq_getElem?_getD, List.getElem?_eq_getElem hk]; rfl
      rw [hd]
      simp only [hs]
    · have hs : stays tail.length ks k = tail.length := by unfold stays; rw [if_neg (by omega)]
      rw [List.drop_of_length_le (Nat.le_of_not_lt hk), List.drop_of_length_le (by omega : ks.length ≤ k + 1)]
      simp only [hs, List.take_length]
      rfl
theorem bootFs_nil (ks : List Int) : bootFs [] ks = [] := by rw [bootFs]
def BootRel (w0 : World) (S : Nat → Prop) (g : Nat) (A : Option Addr) (n c : Nat) (r1 r2 r3 : Value) (fs : List Fl) (ks : List Int) (kk ii : Value) (wr : World) : Prop :=
  ∃ (k i : Nat) (B : List Fl), kk = .int .i64 (k : Int) ∧ ii = .int .i64 (i : Int) ∧ i ≤ n ∧ k ≤ i ∧ B.length = i ∧ B ++ bootFs (fs.drop i) (ks.drop k) = bootFs fs ks ∧
    Blk wr g 60 #[.slice A n c, r1, r2, r3] ∧ Files (fun b => (S b ∨ w0.heap.size ≤ b ∧ b < wr.heap.size) ∧ b ≠ g) wr A n c (B ++ fs.drop i) ∧ Keeps S w0 wr
def vs (ks : List Int) : List Value := ks.map fun z => .int .i64 z
set_option maxRecDepth 20000 in
set_option maxHeartbeats 16000000 in
theorem boot_any (g : Nat) (S : Nat → Prop) (d : Dk) (KA : Option Addr) (kn kc : Nat) (ks : List Int) (w : World) (h : IsRef w S g d) (hfine : Fine d) (hrk : Rd w KA kn kc (vs ks)) (hkS : 0 < kn → ∀ ad, KA = some ad → ¬ S ad.block) :
    Calls Try.prog 32 #[.pointer (some ⟨g, 0, none⟩), .slice KA kn kc] w (fun e w' => e = .returned (.tuple #[]) ∧ ∃ S', IsRef w' S' g (boot ks d) ∧ Grew S S' w ∧ Keeps S w w') := by
  have hrkk : ∀ u, Keeps S w u → Rd u KA kn kc (vs ks) := fun u hu => by
    refine ⟨hrk.len, hrk.le, hrk.cap, hrk.nil, fun h0 => ?_⟩
    obtain ⟨ad, e, hlt, hc⟩ := hrk.spot h0
    refine ⟨ad, e, Nat.lt_of_lt_of_le hlt hu.size, fun j v hv => ?_⟩
    have hb : (ad.add j).block = ad.block := add_block _ _
    exact (World.cell?_of_block (by rw [hb]; exact hu.block _ hlt (hkS h0 ad e))).trans (hc j v hv)
  have hkl : ks.length = kn := by have h := hrk.len; unfold vs at h; rw [List.length_map] at h; exact h
  have hkc := And.intro hrk.le hrk.cap
  unfold maxLen at hkc
  obtain ⟨A, c, hb, hSg, hlt, hown, hfi⟩ := h
  have hn16 := hfine.length
  have hus := hfine.used
  obtain ⟨n, hn⟩ : ∃ n, d.fs.length = n := ⟨_, rfl⟩
  rw [hn] at hb hown hfi hn16
  obtain ⟨fs, hfs⟩ : ∃ fs, d.fs = fs := ⟨_, rfl⟩
  rw [hfs] at hn hfi hus
  have hcp := hfi.cap
  have hbt : boot ks d = ⟨bootFs fs ks, d.room, -1, false⟩ := by unfold boot; rw [hfs]
  rw [hbt]
  obtain ⟨i0, hi, hz0, hz1, hz2⟩ := info_parts info5
  have hst : BootRel w S g A n c (.int .i64 d.room) (.int .i64 d.fuse) (.bool d.dn) fs ks (.int .i64 0) (.int .i64 0) w :=
    ⟨0, 0, [], rfl, rfl, Nat.zero_le _, Nat.le_refl _, rfl, rfl, hb, hfi.more fun b hb _ => ⟨.inl hb.1, hb.2⟩, Keeps.refl S w⟩
  have HST := Lib.hid hst
  have HN := Lib.hid hn
  have HRK := Lib.hid hrkk
  have HLT := Lib.hid hlt
  have HOW := Lib.hid hown
  have HSG := Lib.hid hSg
  have HKL := Lib.hid hkl
  have hgl := hb.lt
  clear hst hn hrkk hlt hown hSg hb hfi hfine hrk hfs hbt hkl hkS
  go_enter Try.func32, Try.ntmps32
  go_wp2_with fail
  go_loopw [4, 5] (BootRel w S g A n c (.int .i64 d.room) (.int .i64 d.fuse) (.bool d.dn) fs ks) (fun _ i _ => n - (intOf i).toNat)
  case atStart => exact HST.out
  case round =>
    obtain ⟨k, i, B, rfl, rfl, hin, hki, hBl, hBe, hbk, hf, hkp⟩ := hrel
    have hs0 := hkp.size
    by_cases hlt : i < n
    · obtain ⟨f, hfk⟩ : ∃ f, fs[i]? = some f := ⟨_, List.getElem?_eq_getElem (by rw [HN.out]; exact hlt)⟩
      have hfd : fs.drop i = f :: fs.drop (i + 1) := by
        obtain ⟨hi', rfl⟩ := List.getElem?_eq_some_iff.1 hfk
        exact List.drop_eq_getElem_cons hi'
      rw [hfd] at hf hBe
      have hLk : (B ++ f :: fs.drop (i + 1))[i]? = some f := by rw [List.getElem?_append_right (by omega), hBl, Nat.sub_self]; rfl
      have hfx := hf.at_ hLk
      obtain ⟨gr, o, SA, sc, TA, tc, rfl, ho0, hgr, q0, q1, q2, r1, r2⟩ := hfx
      subst ho0
      rw [Nat.zero_add] at q0 q1 q2
      have c0 := (cells_dk hbk).1
      have hgw : g < wr.heap.size := hbk.lt
      have hle := len_used hfk
      have hgg : ¬ g = gr := fun e => (HOW.out gr rfl).2 e.symm
      have hsg : S gr := (HOW.out gr rfl).1
      have hgrl : gr < w.heap.size := HLT.out gr hsg
      have b2 : decide ((n : Int) ≤ (i : Int)) = false := decide_eq_false (by omega)
      have b3 : ¬ n ≤ i := by omega
      have hxy := stays_le f.tail.length ks k
      have hstep := bootFs_step f (fs.drop (i + 1)) ks k
      obtain ⟨x, hx⟩ : ∃ x, stays f.tail.length ks k = x := ⟨_, rfl⟩
      rw [hx] at hxy hstep
      obtain ⟨y, hy⟩ : ∃ y, f.tail.length = y := ⟨_, rfl⟩
      obtain ⟨sl, hsl⟩ : ∃ sl, f.sure.length = sl := ⟨_, rfl⟩
      rw [hsl] at q1 r1 hle
      rw [hy] at q2 r2 hle hxy hstep hx
      have htk := (r2.take (k := x) hxy).1
      have hcap2 := And.intro r2.1.le r2.1.cap
      unfold maxLen at hcap2
      have htl : (f.tail.take x).length = x := by rw [List.length_take, hy]; omega
      have hslc : ∀ w : World, (Instr.slice 29 (.slice TA y tc) none (some (.int .i64 (x : Int))) none).run Try.prog w = .ok (.slice TA x tc) w := fun w => by
        have hsz : ∀ w, (sizeOf (Try.prog.elem 29)).run Try.prog w = .ok 1 w := fun w => by kernel_rfl
        have hm : (TA.map fun a => a.add (0 * 1)) = TA := by cases TA <;> simp [Addr.add]
        rw [run_slice_h w 29 TA _ tc Try.underlying29 .i64 (x : Int) (by omega) (by omega), hsz]
        simp only [Result.andThen, sliced, hm, ite_self, Int.toNat_natCast, Nat.sub_zero]
      have hput : ∀ (v : World) (V : Option Addr) (kk : Nat), Below wr.heap.size wr v → v.ownsRow wr.heap.size 5 1 (.slice V (0 + sl + x) kk) (0 + sl + x) ([] ++ cs f.sure ++ cs (f.tail.take x)) →
          Files (fun b => (S b ∨ w.heap.size ≤ b ∧ b < v.heap.size) ∧ b ≠ g) (v.setCell ⟨gr, i * 3 + 1, none⟩ (.slice V (sl + x) kk)) (some ⟨gr, 0, none⟩) n c ((B ++ f :: fs.drop (i + 1)).set i { f with sure := f.sure ++ f.tail.take x }) ∧ v.grownBy (v.setCell ⟨gr, i * 3 + 1, none⟩ (.slice V (sl + x) kk)) (some gr) := fun v V kk hv ho => by
        have hvs := hv.size
        have hf7 := (hf.below hv).more (S' := fun b => (S b ∨ w.heap.size ≤ b ∧ b < v.heap.size) ∧ b ≠ g) fun b hb _ => ⟨hb.1.imp id fun h => ⟨h.1, by omega⟩, hb.2⟩
        have e : (f.sure ++ f.tail.take x).length = sl + x := by rw [List.length_append, hsl, htl]
        rw [List.nil_append, ← cs_append, Nat.zero_add, ← e] at ho
        rw [← e]
        exact files_sure hf7 hLk (RdS.new ho fun b hb hlt => ⟨⟨.inr ⟨by omega, hlt⟩, by omega⟩, by omega⟩)
      have hend : ∀ (v u8 : World) (k2 : Nat), k2 ≤ i + 1 → (if 0 < y then k + 1 else k) = k2 → Below wr.heap.size wr v → Files (fun b => (S b ∨ w.heap.size ≤ b ∧ b < v.heap.size) ∧ b ≠ g) u8 (some ⟨gr, 0, none⟩) n c ((B ++ f :: fs.drop (i + 1)).set i { f with sure := f.sure ++ f.tail.take x }) → v.grownBy u8 (some gr) →
          BootRel w S g (some ⟨gr, 0, none⟩) n c (.int .i64 d.room) (.int .i64 d.fuse) (.bool d.dn) fs ks (.int .i64 (k2 : Int)) (.int .i64 ((i + 1 : Nat) : Int)) (u8.setCell ⟨gr, i * 3 + 2, none⟩ (.slice none 0 0)) := fun v u8 k2 hk2 hk3 hv hf8 hg8 => by
        have hset : ((B ++ f :: fs.drop (i + 1)).set i { f with sure := f.sure ++ f.tail.take x })[i]? = some { f with sure := f.sure ++ f.tail.take x } := List.getElem?_set_self (by rw [List.length_append, hBl]; simp)
        have h9 := files_tail (bs := []) hf8 hset (RdS.none_ (fun b => ((S b ∨ w.heap.size ≤ b ∧ b < v.heap.size) ∧ b ≠ g) ∧ b ≠ gr) u8)
        have hs8 := hg8.size
        have hs9 : u8.heap.size ≤ (u8.setCell ⟨gr, i * 3 + 2, none⟩ (.slice none 0 0)).heap.size := h9.2.size
        have hvs := hv.size
        refine ⟨k2, i + 1, B ++ [⟨f.nm, f.sure ++ f.tail.take x, []⟩], rfl, rfl, hlt, hk2, by simp [hBl], ?_, ((hbk.below hv hgw).grown hg8 (fun e => hgg (by injection e))).grown h9.2 (fun e => hgg (by injection e)), ?_, ?_⟩
        · rw [← hBe, hstep, hk3, List.append_assoc]
          rfl
        · have h := h9.1
          rw [List.set_set, List.set_append_right _ _ (by omega), hBl, Nat.sub_self, List.set_cons_zero] at h
          rw [List.append_assoc]
          exact h.more fun b hb _ => ⟨hb.1.imp id fun h => ⟨h.1, by omega⟩, hb.2⟩
        · exact hkp.trans (((Keeps.ofBelow (S := S) hv).trans (Keeps.ofGrown hg8 hsg) (Grew.refl S wr)).trans (Keeps.ofGrown h9.2 hsg) (Grew.refl S wr)) (Grew.refl S w)
      have HRD := Lib.hid (HRK.out wr hkp)
      have HP1 := Lib.hid (show ∀ u, Below wr.heap.size wr u → u.cell? ⟨gr, i * 3 + 1, none⟩ = some (.slice SA sl sc) from fun u hu => (hu.cell (p := ⟨gr, i * 3 + 1, none⟩) hgr).trans q1)
      have HZ1 := Lib.hid (show ∀ u, Below wr.heap.size wr u → u.frozen? ⟨gr, i * 3 + 1, none⟩ = false from fun u hu => files_soft (hf.below hu) _)
      have HZ8 := Lib.hid (show ∀ u {S' : Nat → Prop} {l : List Fl}, Files S' u (some ⟨gr, 0, none⟩) n c l → u.frozen? ⟨gr, i * 3 + 2, none⟩ = false from fun u S' l hu => files_soft hu _)
      have hcg : ∀ u, Below wr.heap.size wr u → u.cell? ⟨g, 0, none⟩ = some (.slice (some ⟨gr, 0, none⟩) n c) ∧ u.cell? ⟨gr, i * 3 + 2, none⟩ = some (.slice TA y tc) := fun u hu => ⟨(hu.cell (p := ⟨g, 0, none⟩) hgw).trans c0, (hu.cell (p := ⟨gr, i * 3 + 2, none⟩) hgr).trans q2⟩
      have HCG := Lib.hid hcg
      have HC8 := Lib.hid (show ∀ (u : World) (v : Value), Below wr.heap.size wr u → (u.setCell ⟨gr, i * 3 + 1, none⟩ v).cell? ⟨g, 0, none⟩ = some (.slice (some ⟨gr, 0, none⟩) n c) ∧ (u.setCell ⟨gr, i * 3 + 1, none⟩ v).cell? ⟨gr, i * 3 + 2, none⟩ = some (.slice TA y tc) from fun u v hu => by
        refine ⟨(World.cell?_setCell_other _ _ _ _ fun e => ?_).trans (hcg u hu).1, (World.cell?_setCell_other _ _ _ _ fun e => ?_).trans (hcg u hu).2⟩
        · injection e with e _ _
          exact hgg e.symm
        · injection e with _ e _
          omega)
      have HTA := Lib.hid htk
      have HSA := Lib.hid r1.1
      have HPUT := Lib.hid hput
      have HEND := Lib.hid hend
      have HSLC := Lib.hid hslc
      have HX := Lib.hid hx
      have HC := Lib.hid (Below.drew (Below.refl wr.heap.size wr))
      clear hBe hbk hf hkp hfd hLk hfk q0 q1 r1 r2 htk htl hslc hput hend hstep hcg hx hy hsl
      by_cases hy0 : 0 < y
      · have b4 : decide (0 < (y : Int)) = true := decide_eq_true (by omega)
        have HKS := Lib.hid (show (if 0 < y then k + 1 else k) = k + 1 from if_pos hy0)
        by_cases hkk : k < kn
        · have b5 : decide ((k : Int) < (kn : Int)) = true := decide_eq_true (by omega)
          have b6 : decide ((kn : Int) ≤ (k : Int)) = false := decide_eq_false (by omega)
          have b7 : ¬ kn ≤ k := by omega
          obtain ⟨ad, uz, rfl, hadl, hz, hcz⟩ := HRD.out.at_ hkk
          have hx : max (0 : Int) (min (ks.getD k 0) (y : Int)) = (x : Int) := by
            have hx := HX.out
            unfold stays at hx
            rw [if_pos ⟨hy0, by rw [HKL.out]; exact hkk⟩] at hx
            omega
          have huz : uz = .int .i64 (ks.getD k 0) := by
            unfold vs at hz
            rw [List.getElem?_map, Option.map_eq_some_iff] at hz
            obtain ⟨z, hz, rfl⟩ := hz
            rw [List.getD_eq_getElem?_getD, hz]
            rfl
          subst huz
          clear hz
          generalize ks.getD k 0 = z at hx hcz
          go_upto_region 9 with fail
          refine wp_region_held_drew (S := (fun w' => w'.cell? ⟨g, 0, none⟩ = some (.slice (some ⟨gr, 0, none⟩) n c) ∧ w'.cell? ⟨gr, i * 3 + 2, none⟩ = some (.slice TA y tc))) (by kernel_rfl) (by first | (with_reducible exact HS3.out) | (with_reducible exact HCG.out _ HC.out)) (fun hHeld => ?_)
          refine held_take (i := 0) (d := 52) (v := (.pointer (some ⟨g, 0, none⟩))) rfl rfl (by kernel_rfl) (by kernel_rfl) (by kernel_rfl) (fun _ _ _ h => h) (by kernel_rfl) (fun w hSw => by (obtain ⟨hS, hS2⟩ := hSw); go_simp) hHeld ?_
          try simp only [List.setIfInBounds_toArray, List.set_cons_zero, List.set_cons_succ]
          refine held_take (i := 1) (d := 53) (v := (.pointer (some ⟨g, 0, none⟩))) rfl rfl (by kernel_rfl) (by kernel_rfl) (by kernel_rfl) (fun _ _ _ h => h) (by kernel_rfl) (fun w hSw => by (obtain ⟨hS, hS2⟩ := hSw); go_simp) hHeld ?_
          try simp only [List.setIfInBounds_toArray, List.set_cons_zero, List.set_cons_succ]
          refine held_take (i := 2) (d := 54) (v := (.pointer (some ⟨g, 0, none⟩))) rfl rfl (by kernel_rfl) (by kernel_rfl) (by kernel_rfl) (fun _ _ _ h => h) (by kernel_rfl) (fun w hSw => by (obtain ⟨hS, hS2⟩ := hSw); go_simp) hHeld ?_
          try simp only [List.setIfInBounds_toArray, List.set_cons_zero, List.set_cons_succ]
          refine held_take (i := 3) (d := 55) (v := (.slice (some ⟨gr, 0, none⟩) n c)) rfl rfl (by kernel_rfl) (by kernel_rfl) (by kernel_rfl) (fun _ _ _ h => h) (by kernel_rfl) (fun w hSw => by (obtain ⟨hS, hS2⟩ := hSw); go_simp) hHeld ?_
          try simp only [List.setIfInBounds_toArray, List.set_cons_zero, List.set_cons_succ]
          refine held_take (i := 4) (d := 56) (v := (.int .i64 (i : Int))) rfl rfl (by kernel_rfl) (by kernel_rfl) (by kernel_rfl) (fun _ _ _ h => h) (by kernel_rfl) (fun w hSw => by (obtain ⟨hS, hS2⟩ := hSw); go_simp) hHeld ?_
          try simp only [List.setIfInBounds_toArray, List.set_cons_zero, List.set_cons_succ]
          refine held_take (i := 6) (d := 58) (v := (.pointer (some ⟨g, 0, none⟩))) rfl rfl (by kernel_rfl) (by kernel_rfl) (by kernel_rfl) (fun _ _ _ h => h) (by kernel_rfl) (fun w hSw => by (obtain ⟨hS, hS2⟩ := hSw); go_simp) hHeld ?_
          try simp only [List.setIfInBounds_toArray, List.set_cons_zero, List.set_cons_succ]
          refine held_take (i := 7) (d := 59) (v := (.pointer (some ⟨g, 0, none⟩))) rfl rfl (by kernel_rfl) (by kernel_rfl) (by kernel_rfl) (fun _ _ _ h => h) (by kernel_rfl) (fun w hSw => by (obtain ⟨hS, hS2⟩ := hSw); go_simp) hHeld ?_
          try simp only [List.setIfInBounds_toArray, List.set_cons_zero, List.set_cons_succ]
          refine held_take (i := 8) (d := 60) (v := (.pointer (some ⟨g, 0, none⟩))) rfl rfl (by kernel_rfl) (by kernel_rfl) (by kernel_rfl) (fun _ _ _ h => h) (by kernel_rfl) (fun w hSw => by (obtain ⟨hS, hS2⟩ := hSw); go_simp) hHeld ?_
          try simp only [List.setIfInBounds_toArray, List.set_cons_zero, List.set_cons_succ]
          refine held_take (i := 9) (d := 61) (v := (.slice (some ⟨gr, 0, none⟩) n c)) rfl rfl (by kernel_rfl) (by kernel_rfl) (by kernel_rfl) (fun _ _ _ h => h) (by kernel_rfl) (fun w hSw => by (obtain ⟨hS, hS2⟩ := hSw); go_simp) hHeld ?_
          try simp only [List.setIfInBounds_toArray, List.set_cons_zero, List.set_cons_succ]
          refine held_take (i := 10) (d := 62) (v := (.int .i64 (i : Int))) rfl rfl (by kernel_rfl) (by kernel_rfl) (by kernel_rfl) (fun _ _ _ h => h) (by kernel_rfl) (fun w hSw => by (obtain ⟨hS, hS2⟩ := hSw); go_simp) hHeld ?_
          try simp only [List.setIfInBounds_toArray, List.set_cons_zero, List.set_cons_succ]
          refine held_take (i := 11) (d := 63) (v := (.pointer (some ⟨gr, i * 3, none⟩))) rfl rfl (by kernel_rfl) (by kernel_rfl) (by kernel_rfl) (fun _ _ _ h => h) (by kernel_rfl) (fun w hSw => by (obtain ⟨hS, hS2⟩ := hSw); go_simp) hHeld ?_
          try simp only [List.setIfInBounds_toArray, List.set_cons_zero, List.set_cons_succ]
          refine held_take (i := 12) (d := 64) (v := (.pointer (some ⟨gr, i * 3 + 1, none⟩))) rfl rfl (by kernel_rfl) (by kernel_rfl) (by kernel_rfl) (fun _ _ _ h => h) (by kernel_rfl) (fun w hSw => by (obtain ⟨hS, hS2⟩ := hSw); go_simp) hHeld ?_
          try simp only [List.setIfInBounds_toArray, List.set_cons_zero, List.set_cons_succ]
          refine held_take (i := 15) (d := 67) (v := (.pointer (some ⟨g, 0, none⟩))) rfl rfl (by kernel_rfl) (by kernel_rfl) (by kernel_rfl) (fun _ _ _ h => h) (by kernel_rfl) (fun w hSw => by (obtain ⟨hS, hS2⟩ := hSw); go_simp) hHeld ?_
          try simp only [List.setIfInBounds_toArray, List.set_cons_zero, List.set_cons_succ]
          refine held_take (i := 16) (d := 68) (v := (.pointer (some ⟨g, 0, none⟩))) rfl rfl (by kernel_rfl) (by kernel_rfl) (by kernel_rfl) (fun _ _ _ h => h) (by kernel_rfl) (fun w hSw => by (obtain ⟨hS, hS2⟩ := hSw); go_simp) hHeld ?_
          try simp only [List.setIfInBounds_toArray, List.set_cons_zero, List.set_cons_succ]
          refine held_take (i := 17) (d := 69) (v := (.pointer (some ⟨g, 0, none⟩))) rfl rfl (by kernel_rfl) (by kernel_rfl) (by kernel_rfl) (fun _ _ _ h => h) (by kernel_rfl) (fun w hSw => by (obtain ⟨hS, hS2⟩ := hSw); go_simp) hHeld ?_
          try simp only [List.setIfInBounds_toArray, List.set_cons_zero, List.set_cons_succ]
          refine held_take (i := 18) (d := 70) (v := (.slice (some ⟨gr, 0, none⟩) n c)) rfl rfl (by kernel_rfl) (by kernel_rfl) (by kernel_rfl) (fun _ _ _ h => h) (by kernel_rfl) (fun w hSw => by (obtain ⟨hS, hS2⟩ := hSw); go_simp) hHeld ?_
          try simp only [List.setIfInBounds_toArray, List.set_cons_zero, List.set_cons_succ]
          refine held_take (i := 19) (d := 71) (v := (.int .i64 (i : Int))) rfl rfl (by kernel_rfl) (by kernel_rfl) (by kernel_rfl) (fun _ _ _ h => h) (by kernel_rfl) (fun w hSw => by (obtain ⟨hS, hS2⟩ := hSw); go_simp) hHeld ?_
          try simp only [List.setIfInBounds_toArray, List.set_cons_zero, List.set_cons_succ]
          refine held_take (i := 20) (d := 72) (v := (.pointer (some ⟨gr, i * 3, none⟩))) rfl rfl (by kernel_rfl) (by kernel_rfl) (by kernel_rfl) (fun _ _ _ h => h) (by kernel_rfl) (fun w hSw => by (obtain ⟨hS, hS2⟩ := hSw); go_simp) hHeld ?_
          try simp only [List.setIfInBounds_toArray, List.set_cons_zero, List.set_cons_succ]
          refine held_take (i := 21) (d := 73) (v := (.pointer (some ⟨gr, i * 3 + 2, none⟩))) rfl rfl (by kernel_rfl) (by kernel_rfl) (by kernel_rfl) (fun _ _ _ h => h) (by kernel_rfl) (fun w hSw => by (obtain ⟨hS, hS2⟩ := hSw); go_simp) hHeld ?_
          try simp only [List.setIfInBounds_toArray, List.set_cons_zero, List.set_cons_succ]
          refine held_take (i := 22) (d := 74) (v := (.slice TA y tc)) rfl rfl (by kernel_rfl) (by kernel_rfl) (by kernel_rfl) (fun _ _ _ h => h) (by kernel_rfl) (fun w hSw => by (obtain ⟨hS, hS2⟩ := hSw); go_simp) hHeld ?_
          try simp only [List.setIfInBounds_toArray, List.set_cons_zero, List.set_cons_succ]
          refine held_take (i := 23) (d := 75) (v := (.int .i64 (x : Int))) rfl rfl (by kernel_rfl) (by kernel_rfl) (by kernel_rfl) (fun _ _ _ h => h) (by kernel_rfl) (fun w hSw => by (obtain ⟨hS, hS2⟩ := hSw); go_simp) hHeld ?_
          try simp only [List.setIfInBounds_toArray, List.set_cons_zero, List.set_cons_succ]
          refine held_take (i := 24) (d := 76) (v := (.slice TA x tc)) rfl rfl (by kernel_rfl) (by kernel_rfl) (by kernel_rfl) (fun _ _ _ h => h) (by kernel_rfl) (fun w hSw => by have hx := HSLC.out w; go_simp) hHeld ?_
          try simp only [List.setIfInBounds_toArray, List.set_cons_zero, List.set_cons_succ]
          refine wpAnyH_ready (rs := [5, 13]) (by kernel_rfl) (by simp) ?_
          refine AllReadyH.cons rfl (fun K hK => ?_) (AllReadyH.cons rfl (fun K hK => ?_) AllReadyH.nil)
          · go_simp
            have HO := Lib.hid (show ((wr.alloc (.cells #[] 5)).drew).ownsRow wr.heap.size 5 1 (.slice (some ⟨wr.heap.size, 0, none⟩) 0 0) 0 [] from ⟨rfl, .inr ⟨wr.heap.size, 0, #[], rfl, Nat.le_refl _, heap_alloc_new wr _, Nat.le_refl _, by unfold maxLen; omega, rfl, rfl⟩⟩)
            replace HC := Lib.hid (show Below wr.heap.size wr (wr.alloc (.cells #[] 5)).drew from Below.drew (bel_alloc (Below.refl _ _) _))
            refine hK.out _ _ (by first | (with_reducible exact HS3.out) | (with_reducible exact HCG.out _ HC.out)) (fun hHeld => ?_)
            clear hK K
            refine wpAnyH_ready (rs := [13]) (by kernel_rfl) (by simp) ?_
            refine AllReadyH.cons rfl (fun K hK => ?_) AllReadyH.nil
            have p1 := HP1.out _ HC.out
            go_simp
            clear p1
            skip
            refine hK.out _ _ (by first | (with_reducible exact HS3.out) | (with_reducible exact HCG.out _ HC.out)) (fun hHeld => ?_)
            clear hK K
            refine wpAnyH_ready (rs := [14]) (by kernel_rfl) (by simp) ?_
            refine AllReadyH.cons rfl (fun K hK => ?_) AllReadyH.nil
            refine step_append_rd rfl (.tmp 57) (.tmp 65) 29 rfl wr.heap.size 5 i0 _ 1 Try.underlying29 hi hz0 hz1 hz2 rfl (some ⟨wr.heap.size, 0, none⟩) 0 0 [] (by rfl) HO.out SA sl sc (cs f.sure) (by rfl) (HSA.out.below HC.out) (cs_one _) (by unfold maxLen; omega) (by omega) HC.out.size ?_
            intro V5 c5 x5 hown hb
            replace HO := Lib.hid hown
            replace HC := Lib.hid (HC.out.trans hb)
            clear hown hb
            show K (Act.put _ (some 66) _) _
            try simp only [Act.put]
            refine hK.out _ _ (by first | (with_reducible exact HS3.out) | (with_reducible exact HCG.out _ HC.out)) (fun hHeld => ?_)
            clear hK K
            refine wpAnyH_ready (rs := [25]) (by kernel_rfl) (by simp) ?_
            refine AllReadyH.cons rfl (fun K hK => ?_) AllReadyH.nil
            refine step_append_rd rfl (.tmp 66) (.tmp 76) 29 rfl wr.heap.size 5 i0 _ 1 Try.underlying29 hi hz0 hz1 hz2 rfl V5 (0 + sl) c5 ([] ++ cs f.sure) (by rfl) HO.out TA x tc (cs (f.tail.take x)) (by rfl) (HTA.out.below HC.out) (cs_one _) (by unfold maxLen; omega) (by omega) HC.out.size ?_
            intro V6 c6 x6 hown hb
            replace HO := Lib.hid hown
            replace HC := Lib.hid (HC.out.trans hb)
            clear hown hb
            show K (Act.put _ (some 77) _) _
            try simp only [Act.put]
            refine hK.out _ _ (by first | (with_reducible exact HS3.out) | (with_reducible exact HCG.out _ HC.out)) (fun hHeld => ?_)
            clear hK K
            refine held_take (i := 26) (d := 78) (v := (.pointer (some ⟨gr, i * 3, none⟩))) rfl rfl (by kernel_rfl) (by kernel_rfl) (by kernel_rfl) (fun _ _ _ h => h) (by kernel_rfl) (fun w hSw => by (obtain ⟨hS, hS2⟩ := hSw); go_simp) hHeld ?_
            try simp only [List.setIfInBounds_toArray]
            refine held_take (i := 27) (d := 79) (v := (.pointer (some ⟨gr, i * 3 + 1, none⟩))) rfl rfl (by kernel_rfl) (by kernel_rfl) (by kernel_rfl) (fun _ _ _ h => h) (by kernel_rfl) (fun w hSw => by (obtain ⟨hS, hS2⟩ := hSw); go_simp) hHeld ?_
            try simp only [List.setIfInBounds_toArray]
            refine wpAnyH_ready (rs := [28]) (by kernel_rfl) (by simp) ?_
            refine AllReadyH.cons rfl (fun K hK => ?_) AllReadyH.nil
            have p1 := HP1.out _ HC.out
            have z1 := HZ1.out _ HC.out
            go_simp
            clear p1 z1
            have hfs := HPUT.out _ _ _ HC.out HO.out
            have hc8 := HC8.out _ (.slice V6 (sl + x) c6) HC.out
            generalize hgen : World.setCell _ ⟨gr, i * 3 + 1, none⟩ (.slice V6 (sl + x) c6) = u8 at hfs hc8 ⊢
            clear hgen
            have HS3 := Lib.hid hc8
            have HF8 := Lib.hid hfs
            clear hfs hc8
            refine hK.out _ _ (by first | (with_reducible exact HS3.out) | (with_reducible exact HCG.out _ HC.out)) (fun hHeld => ?_)
            clear hK K
            refine wpAnyH_done (by kernel_rfl) ?_ _
            have c0 := HS3.out.1
            have t2 := HS3.out.2
            have z2 := HZ8.out _ HF8.out.1
            go_wp2_with fail
            exact ⟨HEND.out _ _ (k + 1) (by omega) HKS.out HC.out HF8.out.1 HF8.out.2, by simp [intOf]; omega⟩
          · have p1 := HP1.out _ HC.out
            go_simp
            clear p1
            skip
            refine hK.out _ _ (by first | (with_reducible exact HS3.out) | (with_reducible exact HCG.out _ HC.out)) (fun hHeld => ?_)
            clear hK K
            refine wpAnyH_ready (rs := [5]) (by kernel_rfl) (by simp) ?_
            refine AllReadyH.cons rfl (fun K hK => ?_) AllReadyH.nil
            go_simp
            have HO := Lib.hid (show ((wr.alloc (.cells #[] 5)).drew).ownsRow wr.heap.size 5 1 (.slice (some ⟨wr.heap.size, 0, none⟩) 0 0) 0 [] from ⟨rfl, .inr ⟨wr.heap.size, 0, #[], rfl, Nat.le_refl _, heap_alloc_new wr _, Nat.le_refl _, by unfold maxLen; omega, rfl, rfl⟩⟩)
            replace HC := Lib.hid (show Below wr.heap.size wr (wr.alloc (.cells #[] 5)).drew from Below.drew (bel_alloc (Below.refl _ _) _))
            refine hK.out _ _ (by first | (with_reducible exact HS3.out) | (with_reducible exact HCG.out _ HC.out)) (fun hHeld => ?_)
            clear hK K
            refine wpAnyH_ready (rs := [14]) (by kernel_rfl) (by simp) ?_
            refine AllReadyH.cons rfl (fun K hK => ?_) AllReadyH.nil
            refine step_append_rd rfl (.tmp 57) (.tmp 65) 29 rfl wr.heap.size 5 i0 _ 1 Try.underlying29 hi hz0 hz1 hz2 rfl (some ⟨wr.heap.size, 0, none⟩) 0 0 [] (by rfl) HO.out SA sl sc (cs f.sure) (by rfl) (HSA.out.below HC.out) (cs_one _) (by unfold maxLen; omega) (by omega) HC.out.size ?_
            intro V5 c5 x5 hown hb
            replace HO := Lib.hid hown
            replace HC := Lib.hid (HC.out.trans hb)
            clear hown hb
            show K (Act.put _ (some 66) _) _
            try simp only [Act.put]
            refine hK.out _ _ (by first | (with_reducible exact HS3.out) | (with_reducible exact HCG.out _ HC.out)) (fun hHeld => ?_)
            clear hK K
            refine wpAnyH_ready (rs := [25]) (by kernel_rfl) (by simp) ?_
            refine AllReadyH.cons rfl (fun K hK => ?_) AllReadyH.nil
            refine step_append_rd rfl (.tmp 66) (.tmp 76) 29 rfl wr.heap.size 5 i0 _ 1 Try.underlying29 hi hz0 hz1 hz2 rfl V5 (0 + sl) c5 ([] ++ cs f.sure) (by rfl) HO.out TA x tc (cs (f.tail.take x)) (by rfl) (HTA.out.below HC.out) (cs_one _) (by unfold maxLen; omega) (by omega) HC.out.size ?_
            intro V6 c6 x6 hown hb
            replace HO := Lib.hid hown
            replace HC := Lib.hid (HC.out.trans hb)
            clear hown hb
            show K (Act.put _ (some 77) _) _
            try simp only [Act.put]
            refine hK.out _ _ (by first | (with_reducible exact HS3.out) | (with_reducible exact HCG.out _ HC.out)) (fun hHeld => ?_)
            clear hK K
            refine held_take (i := 26) (d := 78) (v := (.pointer (some ⟨gr, i * 3, none⟩))) rfl rfl (by kernel_rfl) (by kernel_rfl) (by kernel_rfl) (fun _ _ _ h => h) (by kernel_rfl) (fun w hSw => by (obtain ⟨hS, hS2⟩ := hSw); go_simp) hHeld ?_
            try simp only [List.setIfInBounds_toArray]
            refine held_take (i := 27) (d := 79) (v := (.pointer (some ⟨gr, i * 3 + 1, none⟩))) rfl rfl (by kernel_rfl) (by kernel_rfl) (by kernel_rfl) (fun _ _ _ h => h) (by kernel_rfl) (fun w hSw => by (obtain ⟨hS, hS2⟩ := hSw); go_simp) hHeld ?_
            try simp only [List.setIfInBounds_toArray]
            refine wpAnyH_ready (rs := [28]) (by kernel_rfl) (by simp) ?_
            refine AllReadyH.cons rfl (fun K hK => ?_) AllReadyH.nil
            have p1 := HP1.out _ HC.out
            have z1 := HZ1.out _ HC.out
            go_simp
            clear p1 z1
            have hfs := HPUT.out _ _ _ HC.out HO.out
            have hc8 := HC8.out _ (.slice V6 (sl + x) c6) HC.out
            generalize hgen : World.setCell _ ⟨gr, i * 3 + 1, none⟩ (.slice V6 (sl + x) c6) = u8 at hfs hc8 ⊢
            clear hgen
            have HS3 := Lib.hid hc8
            have HF8 := Lib.hid hfs
            clear hfs hc8
            refine hK.out _ _ (by first | (with_reducible exact HS3.out) | (with_reducible exact HCG.out _ HC.out)) (fun hHeld => ?_)
            clear hK K
            refine wpAnyH_done (by kernel_rfl) ?_ _
            have c0 := HS3.out.1
            have t2 := HS3.out.2
            have z2 := HZ8.out _ HF8.out.1
            go_wp2_with fail
            exact ⟨HEND.out _ _ (k + 1) (by omega) HKS.out HC.out HF8.out.1 HF8.out.2, by simp [intOf]; omega⟩
        · have b5 : decide ((k : Int) < (kn : Int)) = false := decide_eq_false (by omega)
          have hx : y = x := by
            have hx := HX.out
            unfold stays at hx
            rw [if_neg (by rw [HKL.out]; omega)] at hx
            exact hx
          subst hx
          go_upto_region 9 with fail
          refine wp_region_held_drew (S := (fun w' => w'.cell? ⟨g, 0, none⟩ = some (.slice (some ⟨gr, 0, none⟩) n c) ∧ w'.cell? ⟨gr, i * 3 + 2, none⟩ = some (.slice TA y tc))) (by kernel_rfl) (by first | (with_reducible exact HS3.out) | (with_reducible exact HCG.out _ HC.out)) (fun hHeld => ?_)
          refine held_take (i := 0) (d := 52) (v := (.pointer (some ⟨g, 0, none⟩))) rfl rfl (by kernel_rfl) (by kernel_rfl) (by kernel_rfl) (fun _ _ _ h => h) (by kernel_rfl) (fun w hSw => by (obtain ⟨hS, hS2⟩ := hSw); go_simp) hHeld ?_
          try simp only [List.setIfInBounds_toArray, List.set_cons_zero, List.set_cons_succ]
          refine held_take (i := 1) (d := 53) (v := (.pointer (some ⟨g, 0, none⟩))) rfl rfl (by kernel_rfl) (by kernel_rfl) (by kernel_rfl) (fun _ _ _ h => h) (by kernel_rfl) (fun w hSw => by (obtain ⟨hS, hS2⟩ := hSw); go_simp) hHeld ?_
          try simp only [List.setIfInBounds_toArray, List.set_cons_zero, List.set_cons_succ]
          refine held_take (i := 2) (d := 54) (v := (.pointer (some ⟨g, 0, none⟩))) rfl rfl (by kernel_rfl) (by kernel_rfl) (by kernel_rfl) (fun _ _ _ h => h) (by kernel_rfl) (fun w hSw => by (obtain ⟨hS, hS2⟩ := hSw); go_simp) hHeld ?_
          try simp only [List.setIfInBounds_toArray, List.set_cons_zero, List.set_cons_succ]
          refine held_take (i := 3) (d := 55) (v := (.slice (some ⟨gr, 0, none⟩) n c)) rfl rfl (by kernel_rfl) (by kernel_rfl) (by kernel_rfl) (fun _ _ _ h => h) (by kernel_rfl) (fun w hSw => by (obtain ⟨hS, hS2⟩ := hSw); go_simp) hHeld ?_
          try simp only [List.setIfInBounds_toArray, List.set_cons_zero, List.set_cons_succ]
          refine held_take (i := 4) (d := 56) (v := (.int .i64 (i : Int))) rfl rfl (by kernel_rfl) (by kernel_rfl) (by kernel_rfl) (fun _ _ _ h => h) (by kernel_rfl) (fun w hSw => by (obtain ⟨hS, hS2⟩ := hSw); go_simp) hHeld ?_
          try simp only [List.setIfInBounds_toArray, List.set_cons_zero, List.set_cons_succ]
          refine held_take (i := 6) (d := 58) (v := (.pointer (some ⟨g, 0, none⟩))) rfl rfl (by kernel_rfl) (by kernel_rfl) (by kernel_rfl) (fun _ _ _ h => h) (by kernel_rfl) (fun w hSw => by (obtain ⟨hS, hS2⟩ := hSw); go_simp) hHeld ?_
          try simp only [List.setIfInBounds_toArray, List.set_cons_zero, List.set_cons_succ]
          refine held_take (i := 7) (d := 59) (v := (.pointer (some ⟨g, 0, none⟩))) rfl rfl (by kernel_rfl) (by kernel_rfl) (by kernel_rfl) (fun _ _ _ h => h) (by kernel_rfl) (fun w hSw => by (obtain ⟨hS, hS2⟩ := hSw); go_simp) hHeld ?_
          try simp only [List.setIfInBounds_toArray, List.set_cons_zero, List.set_cons_succ]
          refine held_take (i := 8) (d := 60) (v := (.pointer (some ⟨g, 0, none⟩))) rfl rfl (by kernel_rfl) (by kernel_rfl) (by kernel_rfl) (fun _ _ _ h => h) (by kernel_rfl) (fun w hSw => by (obtain ⟨hS, hS2⟩ := hSw); go_simp) hHeld ?_
          try simp only [List.setIfInBounds_toArray, List.set_cons_zero, List.set_cons_succ]
          refine held_take (i := 9) (d := 61) (v := (.slice (some ⟨gr, 0, none⟩) n c)) rfl rfl (by kernel_rfl) (by kernel_rfl) (by kernel_rfl) (fun _ _ _ h => h) (by kernel_rfl) (fun w hSw => by (obtain ⟨hS, hS2⟩ := hSw); go_simp) hHeld ?_
          try simp only [List.setIfInBounds_toArray, List.set_cons_zero, List.set_cons_succ]
          refine held_take (i := 10) (d := 62) (v := (.int .i64 (i : Int))) rfl rfl (by kernel_rfl) (by kernel_rfl) (by kernel_rfl) (fun _ _ _ h => h) (by kernel_rfl) (fun w hSw => by (obtain ⟨hS, hS2⟩ := hSw); go_simp) hHeld ?_
          try simp only [List.setIfInBounds_toArray, List.set_cons_zero, List.set_cons_succ]
          refine held_take (i := 11) (d := 63) (v := (.pointer (some ⟨gr, i * 3, none⟩))) rfl rfl (by kernel_rfl) (by kernel_rfl) (by kernel_rfl) (fun _ _ _ h => h) (by kernel_rfl) (fun w hSw => by (obtain ⟨hS, hS2⟩ := hSw); go_simp) hHeld ?_
          try simp only [List.setIfInBounds_toArray, List.set_cons_zero, List.set_cons_succ]
          refine held_take (i := 12) (d := 64) (v := (.pointer (some ⟨gr, i * 3 + 1, none⟩))) rfl rfl (by kernel_rfl) (by kernel_rfl) (by kernel_rfl) (fun _ _ _ h => h) (by kernel_rfl) (fun w hSw => by (obtain ⟨hS, hS2⟩ := hSw); go_simp) hHeld ?_
          try simp only [List.setIfInBounds_toArray, List.set_cons_zero, List.set_cons_succ]
          refine held_take (i := 15) (d := 67) (v := (.pointer (some ⟨g, 0, none⟩))) rfl rfl (by kernel_rfl) (by kernel_rfl) (by kernel_rfl) (fun _ _ _ h => h) (by kernel_rfl) (fun w hSw => by (obtain ⟨hS, hS2⟩ := hSw); go_simp) hHeld ?_
          try simp only [List.setIfInBounds_toArray, List.set_cons_zero, List.set_cons_succ]
          refine held_take (i := 16) (d := 68) (v := (.pointer (some ⟨g, 0, none⟩))) rfl rfl (by kernel_rfl) (by kernel_rfl) (by kernel_rfl) (fun _ _ _ h => h) (by kernel_rfl) (fun w hSw => by (obtain ⟨hS, hS2⟩ := hSw); go_simp) hHeld ?_
          try simp only [List.setIfInBounds_toArray, List.set_cons_zero, List.set_cons_succ]
          refine held_take (i := 17) (d := 69) (v := (.pointer (some ⟨g, 0, none⟩))) rfl rfl (by kernel_rfl) (by kernel_rfl) (by kernel_rfl) (fun _ _ _ h => h) (by kernel_rfl) (fun w hSw => by (obtain ⟨hS, hS2⟩ := hSw); go_simp) hHeld ?_
          try simp only [List.setIfInBounds_toArray, List.set_cons_zero, List.set_cons_succ]
          refine held_take (i := 18) (d := 70) (v := (.slice (some ⟨gr, 0, none⟩) n c)) rfl rfl (by kernel_rfl) (by kernel_rfl) (by kernel_rfl) (fun _ _ _ h => h) (by kernel_rfl) (fun w hSw => by (obtain ⟨hS, hS2⟩ := hSw); go_simp) hHeld ?_
          try simp only [List.setIfInBounds_toArray, List.set_cons_zero, List.set_cons_succ]
          refine held_take (i := 19) (d := 71) (v := (.int .i64 (i : Int))) rfl rfl (by kernel_rfl) (by kernel_rfl) (by kernel_rfl) (fun _ _ _ h => h) (by kernel_rfl) (fun w hSw => by (obtain ⟨hS, hS2⟩ := hSw); go_simp) hHeld ?_
          try simp only [List.setIfInBounds_toArray, List.set_cons_zero, List.set_cons_succ]
          refine held_take (i := 20) (d := 72) (v := (.pointer (some ⟨gr, i * 3, none⟩))) rfl rfl (by kernel_rfl) (by kernel_rfl) (by kernel_rfl) (fun _ _ _ h => h) (by kernel_rfl) (fun w hSw => by (obtain ⟨hS, hS2⟩ := hSw); go_simp) hHeld ?_
          try simp only [List.setIfInBounds_toArray, List.set_cons_zero, List.set_cons_succ]
          refine held_take (i := 21) (d := 73) (v := (.pointer (some ⟨gr, i * 3 + 2, none⟩))) rfl rfl (by kernel_rfl) (by kernel_rfl) (by kernel_rfl) (fun _ _ _ h => h) (by kernel_rfl) (fun w hSw => by (obtain ⟨hS, hS2⟩ := hSw); go_simp) hHeld ?_
          try simp only [List.setIfInBounds_toArray, List.set_cons_zero, List.set_cons_succ]
          refine held_take (i := 22) (d := 74) (v := (.slice TA y tc)) rfl rfl (by kernel_rfl) (by kernel_rfl) (by kernel_rfl) (fun _ _ _ h => h) (by kernel_rfl) (fun w hSw => by (obtain ⟨hS, hS2⟩ := hSw); go_simp) hHeld ?_
          try simp only [List.setIfInBounds_toArray, List.set_cons_zero, List.set_cons_succ]
          refine held_take (i := 23) (d := 75) (v := (.int .i64 (y : Int))) rfl rfl (by kernel_rfl) (by kernel_rfl) (by kernel_rfl) (fun _ _ _ h => h) (by kernel_rfl) (fun w hSw => by (obtain ⟨hS, hS2⟩ := hSw); go_simp) hHeld ?_
          try simp only [List.setIfInBounds_toArray, List.set_cons_zero, List.set_cons_succ]
          refine held_take (i := 24) (d := 76) (v := (.slice TA y tc)) rfl rfl (by kernel_rfl) (by kernel_rfl) (by kernel_rfl) (fun _ _ _ h => h) (by kernel_rfl) (fun w hSw => by have hx := HSLC.out w; go_simp) hHeld ?_
          try simp only [List.setIfInBounds_toArray, List.set_cons_zero, List.set_cons_succ]
          refine wpAnyH_ready (rs := [5, 13]) (by kernel_rfl) (by simp) ?_
          refine AllReadyH.cons rfl (fun K hK => ?_) (AllReadyH.cons rfl (fun K hK => ?_) AllReadyH.nil)
          · go_simp
            have HO := Lib.hid (show ((wr.alloc (.cells #[] 5)).drew).ownsRow wr.heap.size 5 1 (.slice (some ⟨wr.heap.size, 0, none⟩) 0 0) 0 [] from ⟨rfl, .inr ⟨wr.heap.size, 0, #[], rfl, Nat.le_refl _, heap_alloc_new wr _, Nat.le_refl _, by unfold maxLen; omega, rfl, rfl⟩⟩)
            replace HC := Lib.hid (show Below wr.heap.size wr (wr.alloc (.cells #[] 5)).drew from Below.drew (bel_alloc (Below.refl _ _) _))
            refine hK.out _ _ (by first | (with_reducible exact HS3.out) | (with_reducible exact HCG.out _ HC.out)) (fun hHeld => ?_)
            clear hK K
            refine wpAnyH_ready (rs := [13]) (by kernel_rfl) (by simp) ?_
            refine AllReadyH.cons rfl (fun K hK => ?_) AllReadyH.nil
            have p1 := HP1.out _ HC.out
            go_simp
            clear p1
            skip
            refine hK.out _ _ (by first | (with_reducible exact HS3.out) | (with_reducible exact HCG.out _ HC.out)) (fun hHeld => ?_)
            clear hK K
            refine wpAnyH_ready (rs := [14]) (by kernel_rfl) (by simp) ?_
            refine AllReadyH.cons rfl (fun K hK => ?_) AllReadyH.nil
            refine step_append_rd rfl (.tmp 57) (.tmp 65) 29 rfl wr.heap.size 5 i0 _ 1 Try.underlying29 hi hz0 hz1 hz2 rfl (some ⟨wr.heap.size, 0, none⟩) 0 0 [] (by rfl) HO.out SA sl sc (cs f.sure) (by rfl) (HSA.out.below HC.out) (cs_one _) (by unfold maxLen; omega) (by omega) HC.out.size ?_
            intro V5 c5 x5 hown hb
            replace HO := Lib.hid hown
            replace HC := Lib.hid (HC.out.trans hb)
            clear hown hb
            show K (Act.put _ (some 66) _) _
            try simp only [Act.put]
            refine hK.out _ _ (by first | (with_reducible exact HS3.out) | (with_reducible exact HCG.out _ HC.out)) (fun hHeld => ?_)
            clear hK K
            refine wpAnyH_ready (rs := [25]) (by kernel_rfl) (by simp) ?_
            refine AllReadyH.cons rfl (fun K hK => ?_) AllReadyH.nil
            refine step_append_rd rfl (.tmp 66) (.tmp 76) 29 rfl wr.heap.size 5 i0 _ 1 Try.underlying29 hi hz0 hz1 hz2 rfl V5 (0 + sl) c5 ([] ++ cs f.sure) (by rfl) HO.out TA y tc (cs (f.tail.take y)) (by rfl) (HTA.out.below HC.out) (cs_one _) (by unfold maxLen; omega) (by omega) HC.out.size ?_
            intro V6 c6 x6 hown hb
            replace HO := Lib.hid hown
            replace HC := Lib.hid (HC.out.trans hb)
            clear hown hb
            show K (Act.put _ (some 77) _) _
            try simp only [Act.put]
            refine hK.out _ _ (by first | (with_reducible exact HS3.out) | (with_reducible exact HCG.out _ HC.out)) (fun hHeld => ?_)
            clear hK K
            refine held_take (i := 26) (d := 78) (v := (.pointer (some ⟨gr, i * 3, none⟩))) rfl rfl (by kernel_rfl) (by kernel_rfl) (by kernel_rfl) (fun _ _ _ h => h) (by kernel_rfl) (fun w hSw => by (obtain ⟨hS, hS2⟩ := hSw); go_simp) hHeld ?_
            try simp only [List.setIfInBounds_toArray]
            refine held_take (i := 27) (d := 79) (v := (.pointer (some ⟨gr, i * 3 + 1, none⟩))) rfl rfl (by kernel_rfl) (by kernel_rfl) (by kernel_rfl) (fun _ _ _ h => h) (by kernel_rfl) (fun w hSw => by (obtain ⟨hS, hS2⟩ := hSw); go_simp) hHeld ?_
            try simp only [List.setIfInBounds_toArray]
            refine wpAnyH_ready (rs := [28]) (by kernel_rfl) (by simp) ?_
            refine AllReadyH.cons rfl (fun K hK => ?_) AllReadyH.nil
            have p1 := HP1.out _ HC.out
            have z1 := HZ1.out _ HC.out
            go_simp
            clear p1 z1
            have hfs := HPUT.out _ _ _ HC.out HO.out
            have hc8 := HC8.out _ (.slice V6 (sl + y) c6) HC.out
            generalize hgen : World.setCell _ ⟨gr, i * 3 + 1, none⟩ (.slice V6 (sl + y) c6) = u8 at hfs hc8 ⊢
            clear hgen
            have HS3 := Lib.hid hc8
            have HF8 := Lib.hid hfs
            clear hfs hc8
            refine hK.out _ _ (by first | (with_reducible exact HS3.out) | (with_reducible exact HCG.out _ HC.out)) (fun hHeld => ?_)
            clear hK K
            refine wpAnyH_done (by kernel_rfl) ?_ _
            have c0 := HS3.out.1
            have t2 := HS3.out.2
            have z2 := HZ8.out _ HF8.out.1
            go_wp2_with fail
            exact ⟨HEND.out _ _ (k + 1) (by omega) HKS.out HC.out HF8.out.1 HF8.out.2, by simp [intOf]; omega⟩
          · have p1 := HP1.out _ HC.out
            go_simp
            clear p1
            skip
            refine hK.out _ _ (by first | (with_reducible exact HS3.out) | (with_reducible exact HCG.out _ HC.out)) (fun hHeld => ?_)
            clear hK K
            refine wpAnyH_ready (rs := [5]) (by kernel_rfl) (by simp) ?_
            refine AllReadyH.cons rfl (fun K hK => ?_) AllReadyH.nil
            go_simp
            have HO := Lib.hid (show ((wr.alloc (.cells #[] 5)).drew).ownsRow wr.heap.size 5 1 (.slice (some ⟨wr.heap.size, 0, none⟩) 0 0) 0 [] from ⟨rfl, .inr ⟨wr.heap.size, 0, #[], rfl, Nat.le_refl _, heap_alloc_new wr _, Nat.le_refl _, by unfold maxLen; omega, rfl, rfl⟩⟩)
            replace HC := Lib.hid (show Below wr.heap.size wr (wr.alloc (.cells #[] 5)).drew from Below.drew (bel_alloc (Below.refl _ _) _))
            refine hK.out _ _ (by first | (with_reducible exact HS3.out) | (with_reducible exact HCG.out _ HC.out)) (fun hHeld => ?_)
            clear hK K
            refine wpAnyH_ready (rs := [14]) (by kernel_rfl) (by simp) ?_
            refine AllReadyH.cons rfl (fun K hK => ?_) AllReadyH.nil
            refine step_append_rd rfl (.tmp 57) (.tmp 65) 29 rfl wr.heap.size 5 i0 _ 1 Try.underlying29 hi hz0 hz1 hz2 rfl (some ⟨wr.heap.size, 0, none⟩) 0 0 [] (by rfl) HO.out SA sl sc (cs f.sure) (by rfl) (HSA.out.below HC.out) (cs_one _) (by unfold maxLen; omega) (by omega) HC.out.size ?_
            intro V5 c5 x5 hown hb
            replace HO := Lib.hid hown
            replace HC := Lib.hid (HC.out.trans hb)
            clear hown hb
            show K (Act.put _ (some 66) _) _
            try simp only [Act.put]
            refine hK.out _ _ (by first | (with_reducible exact HS3.out) | (with_reducible exact HCG.out _ HC.out)) (fun hHeld => ?_)
            clear hK K
            refine wpAnyH_ready (rs := [25]) (by kernel_rfl) (by simp) ?_
            refine AllReadyH.cons rfl (fun K hK => ?_) AllReadyH.nil
            refine step_append_rd rfl (.tmp 66) (.tmp 76) 29 rfl wr.heap.size 5 i0 _ 1 Try.underlying29 hi hz0 hz1 hz2 rfl V5 (0 + sl) c5 ([] ++ cs f.sure) (by rfl) HO.out TA y tc (cs (f.tail.take y)) (by rfl) (HTA.out.below HC.out) (cs_one _) (by unfold maxLen; omega) (by omega) HC.out.size ?_
            intro V6 c6 x6 hown hb
            replace HO := Lib.hid hown
            replace HC := Lib.hid (HC.out.trans hb)
            clear hown hb
            show K (Act.put _ (some 77) _) _
            try simp only [Act.put]
            refine hK.out _ _ (by first | (with_reducible exact HS3.out) | (with_reducible exact HCG.out _ HC.out)) (fun hHeld => ?_)
            clear hK K
            refine held_take (i := 26) (d := 78) (v := (.pointer (some ⟨gr, i * 3, none⟩))) rfl rfl (by kernel_rfl) (by kernel_rfl) (by kernel_rfl) (fun _ _ _ h => h) (by kernel_rfl) (fun w hSw => by (obtain ⟨hS, hS2⟩ := hSw); go_simp) hHeld ?_
            try simp only [List.setIfInBounds_toArray]
            refine held_take (i := 27) (d := 79) (v := (.pointer (some ⟨gr, i * 3 + 1, none⟩))) rfl rfl (by kernel_rfl) (by kernel_rfl) (by kernel_rfl) (fun _ _ _ h => h) (by kernel_rfl) (fun w hSw => by (obtain ⟨hS, hS2⟩ := hSw); go_simp) hHeld ?_
            try simp only [List.setIfInBounds_toArray]
            refine wpAnyH_ready (rs := [28]) (by kernel_rfl) (by simp) ?_
            refine AllReadyH.cons rfl (fun K hK => ?_) AllReadyH.nil
            have p1 := HP1.out _ HC.out
            have z1 := HZ1.out _ HC.out
            go_simp
            clear p1 z1
            have hfs := HPUT.out _ _ _ HC.out HO.out
            have hc8 := HC8.out _ (.slice V6 (sl + y) c6) HC.out
            generalize hgen : World.setCell _ ⟨gr, i * 3 + 1, none⟩ (.slice V6 (sl + y) c6) = u8 at hfs hc8 ⊢
            clear hgen
            have HS3 := Lib.hid hc8
            have HF8 := Lib.hid hfs
            clear hfs hc8
            refine hK.out _ _ (by first | (with_reducible exact HS3.out) | (with_reducible exact HCG.out _ HC.out)) (fun hHeld => ?_)
            clear hK K
            refine wpAnyH_done (by kernel_rfl) ?_ _
            have c0 := HS3.out.1
            have t2 := HS3.out.2
            have z2 := HZ8.out _ HF8.out.1
            go_wp2_with fail
            exact ⟨HEND.out _ _ (k + 1) (by omega) HKS.out HC.out HF8.out.1 HF8.out.2, by simp [intOf]; omega⟩
      · have b4 : decide (0 < (y : Int)) = false := decide_eq_false (by omega)
        have HKS := Lib.hid (show (if 0 < y then k + 1 else k) = k from if_neg hy0)
        have hx : y = x := by omega
        subst hx
        go_upto_region 9 with fail
        refine wp_region_held_drew (S := (fun w' => w'.cell? ⟨g, 0, none⟩ = some (.slice (some ⟨gr, 0, none⟩) n c) ∧ w'.cell? ⟨gr, i * 3 + 2, none⟩ = some (.slice TA y tc))) (by kernel_rfl) (by first | (with_reducible exact HS3.out) | (with_reducible exact HCG.out _ HC.out)) (fun hHeld => ?_)
        refine held_take (i := 0) (d := 52) (v := (.pointer (some ⟨g, 0, none⟩))) rfl rfl (by kernel_rfl) (by kernel_rfl) (by kernel_rfl) (fun _ _ _ h => h) (by kernel_rfl) (fun w hSw => by (obtain ⟨hS, hS2⟩ := hSw); go_simp) hHeld ?_
        try simp only [List.setIfInBounds_toArray, List.set_cons_zero, List.set_cons_succ]
        refine held_take (i := 1) (d := 53) (v := (.pointer (some ⟨g, 0, none⟩))) rfl rfl (by kernel_rfl) (by kernel_rfl) (by kernel_rfl) (fun _ _ _ h => h) (by kernel_rfl) (fun w hSw => by (obtain ⟨hS, hS2⟩ := hSw); go_simp) hHeld ?_
        try simp only [List.setIfInBounds_toArray, List.set_cons_zero, List.set_cons_succ]
        refine held_take (i := 2) (d := 54) (v := (.pointer (some ⟨g, 0, none⟩))) rfl rfl (by kernel_rfl) (by kernel_rfl) (by kernel_rfl) (fun _ _ _ h => h) (by kernel_rfl) (fun w hSw => by (obtain ⟨hS, hS2⟩ := hSw); go_simp) hHeld ?_
        try simp only [List.setIfInBounds_toArray, List.set_cons_zero, List.set_cons_succ]
        refine held_take (i := 3) (d := 55) (v := (.slice (some ⟨gr, 0, none⟩) n c)) rfl rfl (by kernel_rfl) (by kernel_rfl) (by kernel_rfl) (fun _ _ _ h => h) (by kernel_rfl) (fun w hSw => by (obtain ⟨hS, hS2⟩ := hSw); go_simp) hHeld ?_
        try simp only [List.setIfInBounds_toArray, List.set_cons_zero, List.set_cons_succ]
        refine held_take (i := 4) (d := 56) (v := (.int .i64 (i : Int))) rfl rfl (by kernel_rfl) (by kernel_rfl) (by kernel_rfl) (fun _ _ _ h => h) (by kernel_rfl) (fun w hSw => by (obtain ⟨hS, hS2⟩ := hSw); go_simp) hHeld ?_
        try simp only [List.setIfInBounds_toArray, List.set_cons_zero, List.set_cons_succ]
        refine held_take (i := 6) (d := 58) (v := (.pointer (some ⟨g, 0, none⟩))) rfl rfl (by kernel_rfl) (by kernel_rfl) (by kernel_rfl) (fun _ _ _ h => h) (by kernel_rfl) (fun w hSw => by (obtain ⟨hS, hS2⟩ := hSw); go_simp) hHeld ?_
        try simp only [List.setIfInBounds_toArray, List.set_cons_zero, List.set_cons_succ]
        refine held_take (i := 7) (d := 59) (v := (.pointer (some ⟨g, 0, none⟩))) rfl rfl (by kernel_rfl) (by kernel_rfl) (by kernel_rfl) (fun _ _ _ h => h) (by kernel_rfl) (fun w hSw => by (obtain ⟨hS, hS2⟩ := hSw); go_simp) hHeld ?_
        try simp only [List.setIfInBounds_toArray, List.set_cons_zero, List.set_cons_succ]
        refine held_take (i := 8) (d := 60) (v := (.pointer (some ⟨g, 0, none⟩))) rfl rfl (by kernel_rfl) (by kernel_rfl) (by kernel_rfl) (fun _ _ _ h => h) (by kernel_rfl) (fun w hSw => by (obtain ⟨hS, hS2⟩ := hSw); go_simp) hHeld ?_
        try simp only [List.setIfInBounds_toArray, List.set_cons_zero, List.set_cons_succ]
        refine held_take (i := 9) (d := 61) (v := (.slice (some ⟨gr, 0, none⟩) n c)) rfl rfl (by kernel_rfl) (by kernel_rfl) (by kernel_rfl) (fun _ _ _ h => h) (by kernel_rfl) (fun w hSw => by (obtain ⟨hS, hS2⟩ := hSw); go_simp) hHeld ?_
        try simp only [List.setIfInBounds_toArray, List.set_cons_zero, List.set_cons_succ]
        refine held_take (i := 10) (d := 62) (v := (.int .i64 (i : Int))) rfl rfl (by kernel_rfl) (by kernel_rfl) (by kernel_rfl) (fun _ _ _ h => h) (by kernel_rfl) (fun w hSw => by (obtain ⟨hS, hS2⟩ := hSw); go_simp) hHeld ?_
        try simp only [List.setIfInBounds_toArray, List.set_cons_zero, List.set_cons_succ]
        refine held_take (i := 11) (d := 63) (v := (.pointer (some ⟨gr, i * 3, none⟩))) rfl rfl (by kernel_rfl) (by kernel_rfl) (by kernel_rfl) (fun _ _ _ h => h) (by kernel_rfl) (fun w hSw => by (obtain ⟨hS, hS2⟩ := hSw); go_simp) hHeld ?_
        try simp only [List.setIfInBounds_toArray, List.set_cons_zero, List.set_cons_succ]
        refine held_take (i := 12) (d := 64) (v := (.pointer (some ⟨gr, i * 3 + 1, none⟩))) rfl rfl (by kernel_rfl) (by kernel_rfl) (by kernel_rfl) (fun _ _ _ h => h) (by kernel_rfl) (fun w hSw => by (obtain ⟨hS, hS2⟩ := hSw); go_simp) hHeld ?_
        try simp only [List.setIfInBounds_toArray, List.set_cons_zero, List.set_cons_succ]
        refine held_take (i := 15) (d := 67) (v := (.pointer (some ⟨g, 0, none⟩))) rfl rfl (by kernel_rfl) (by kernel_rfl) (by kernel_rfl) (fun _ _ _ h => h) (by kernel_rfl) (fun w hSw => by (obtain ⟨hS, hS2⟩ := hSw); go_simp) hHeld ?_
        try simp only [List.setIfInBounds_toArray, List.set_cons_zero, List.set_cons_succ]
        refine held_take (i := 16) (d := 68) (v := (.pointer (some ⟨g, 0, none⟩))) rfl rfl (by kernel_rfl) (by kernel_rfl) (by kernel_rfl) (fun _ _ _ h => h) (by kernel_rfl) (fun w hSw => by (obtain ⟨hS, hS2⟩ := hSw); go_simp) hHeld ?_
        try simp only [List.setIfInBounds_toArray, List.set_cons_zero, List.set_cons_succ]
        refine held_take (i := 17) (d := 69) (v := (.pointer (some ⟨g, 0, none⟩))) rfl rfl (by kernel_rfl) (by kernel_rfl) (by kernel_rfl) (fun _ _ _ h => h) (by kernel_rfl) (fun w hSw => by (obtain ⟨hS, hS2⟩ := hSw); go_simp) hHeld ?_
        try simp only [List.setIfInBounds_toArray, List.set_cons_zero, List.set_cons_succ]
        refine held_take (i := 18) (d := 70) (v := (.slice (some ⟨gr, 0, none⟩) n c)) rfl rfl (by kernel_rfl) (by kernel_rfl) (by kernel_rfl) (fun _ _ _ h => h) (by kernel_rfl) (fun w hSw => by (obtain ⟨hS, hS2⟩ := hSw); go_simp) hHeld ?_
        try simp only [List.setIfInBounds_toArray, List.set_cons_zero, List.set_cons_succ]
        refine held_take (i := 19) (d := 71) (v := (.int .i64 (i : Int))) rfl rfl (by kernel_rfl) (by kernel_rfl) (by kernel_rfl) (fun _ _ _ h => h) (by kernel_rfl) (fun w hSw => by (obtain ⟨hS, hS2⟩ := hSw); go_simp) hHeld ?_
        try simp only [List.setIfInBounds_toArray, List.set_cons_zero, List.set_cons_succ]
        refine held_take (i := 20) (d := 72) (v := (.pointer (some ⟨gr, i * 3, none⟩))) rfl rfl (by kernel_rfl) (by kernel_rfl) (by kernel_rfl) (fun _ _ _ h => h) (by kernel_rfl) (fun w hSw => by (obtain ⟨hS, hS2⟩ := hSw); go_simp) hHeld ?_
        try simp only [List.setIfInBounds_toArray, List.set_cons_zero, List.set_cons_succ]
        refine held_take (i := 21) (d := 73) (v := (.pointer (some ⟨gr, i * 3 + 2, none⟩))) rfl rfl (by kernel_rfl) (by kernel_rfl) (by kernel_rfl) (fun _ _ _ h => h) (by kernel_rfl) (fun w hSw => by (obtain ⟨hS, hS2⟩ := hSw); go_simp) hHeld ?_
        try simp only [List.setIfInBounds_toArray, List.set_cons_zero, List.set_cons_succ]
        refine held_take (i := 22) (d := 74) (v := (.slice TA y tc)) rfl rfl (by kernel_rfl) (by kernel_rfl) (by kernel_rfl) (fun _ _ _ h => h) (by kernel_rfl) (fun w hSw => by (obtain ⟨hS, hS2⟩ := hSw); go_simp) hHeld ?_
        try simp only [List.setIfInBounds_toArray, List.set_cons_zero, List.set_cons_succ]
        refine held_take (i := 23) (d := 75) (v := (.int .i64 (y : Int))) rfl rfl (by kernel_rfl) (by kernel_rfl) (by kernel_rfl) (fun _ _ _ h => h) (by kernel_rfl) (fun w hSw => by (obtain ⟨hS, hS2⟩ := hSw); go_simp) hHeld ?_
        try simp only [List.setIfInBounds_toArray, List.set_cons_zero, List.set_cons_succ]
        refine held_take (i := 24) (d := 76) (v := (.slice TA y tc)) rfl rfl (by kernel_rfl) (by kernel_rfl) (by kernel_rfl) (fun _ _ _ h => h) (by kernel_rfl) (fun w hSw => by have hx := HSLC.out w; go_simp) hHeld ?_
        try simp only [List.setIfInBounds_toArray, List.set_cons_zero, List.set_cons_succ]
        refine wpAnyH_ready (rs := [5, 13]) (by kernel_rfl) (by simp) ?_
        refine AllReadyH.cons rfl (fun K hK => ?_) (AllReadyH.cons rfl (fun K hK => ?_) AllReadyH.nil)
        · go_simp
          have HO := Lib.hid (show ((wr.alloc (.cells #[] 5)).drew).ownsRow wr.heap.size 5 1 (.slice (some ⟨wr.heap.size, 0, none⟩) 0 0) 0 [] from ⟨rfl, .inr ⟨wr.heap.size, 0, #[], rfl, Nat.le_refl _, heap_alloc_new wr _, Nat.le_refl _, by unfold maxLen; omega, rfl, rfl⟩⟩)
          replace HC := Lib.hid (show Below wr.heap.size wr (wr.alloc (.cells #[] 5)).drew from Below.drew (bel_alloc (Below.refl _ _) _))
          refine hK.out _ _ (by first | (with_reducible exact HS3.out) | (with_reducible exact HCG.out _ HC.out)) (fun hHeld => ?_)
          clear hK K
          refine wpAnyH_ready (rs := [13]) (by kernel_rfl) (by simp) ?_
          refine AllReadyH.cons rfl (fun K hK => ?_) AllReadyH.nil
          have p1 := HP1.out _ HC.out
          go_simp
          clear p1
          skip
          refine hK.out _ _ (by first | (with_reducible exact HS3.out) | (with_reducible exact HCG.out _ HC.out)) (fun hHeld => ?_)
          clear hK K
          refine wpAnyH_ready (rs := [14]) (by kernel_rfl) (by simp) ?_
          refine AllReadyH.cons rfl (fun K hK => ?_) AllReadyH.nil
          refine step_append_rd rfl (.tmp 57) (.tmp 65) 29 rfl wr.heap.size 5 i0 _ 1 Try.underlying29 hi hz0 hz1 hz2 rfl (some ⟨wr.heap.size, 0, none⟩) 0 0 [] (by rfl) HO.out SA sl sc (cs f.sure) (by rfl) (HSA.out.below HC.out) (cs_one _) (by unfold maxLen; omega) (by omega) HC.out.size ?_
          intro V5 c5 x5 hown hb
          replace HO := Lib.hid hown
          replace HC := Lib.hid (HC.out.trans hb)
          clear hown hb
          show K (Act.put _ (some 66) _) _
          try simp only [Act.put]
          refine hK.out _ _ (by first | (with_reducible exact HS3.out) | (with_reducible exact HCG.out _ HC.out)) (fun hHeld => ?_)
          clear hK K
          refine wpAnyH_ready (rs := [25]) (by kernel_rfl) (by simp) ?_
          refine AllReadyH.cons rfl (fun K hK => ?_) AllReadyH.nil
          refine step_append_rd rfl (.tmp 66) (.tmp 76) 29 rfl wr.heap.size 5 i0 _ 1 Try.underlying29 hi hz0 hz1 hz2 rfl V5 (0 + sl) c5 ([] ++ cs f.sure) (by rfl) HO.out TA y tc (cs (f.tail.take y)) (by rfl) (HTA.out.below HC.out) (cs_one _) (by unfold maxLen; omega) (by omega) HC.out.size ?_
          intro V6 c6 x6 hown hb
          replace HO := Lib.hid hown
          replace HC := Lib.hid (HC.out.trans hb)
          clear hown hb
          show K (Act.put _ (some 77) _) _
          try simp only [Act.put]
          refine hK.out _ _ (by first | (with_reducible exact HS3.out) | (with_reducible exact HCG.out _ HC.out)) (fun hHeld => ?_)
          clear hK K
          refine held_take (i := 26) (d := 78) (v := (.pointer (some ⟨gr, i * 3, none⟩))) rfl rfl (by kernel_rfl) (by kernel_rfl) (by kernel_rfl) (fun _ _ _ h => h) (by kernel_rfl) (fun w hSw => by (obtain ⟨hS, hS2⟩ := hSw); go_simp) hHeld ?_
          try simp only [List.setIfInBounds_toArray]
          refine held_take (i := 27) (d := 79) (v := (.pointer (some ⟨gr, i * 3 + 1, none⟩))) rfl rfl (by kernel_rfl) (by kernel_rfl) (by kernel_rfl) (fun _ _ _ h => h) (by kernel_rfl) (fun w hSw => by (obtain ⟨hS, hS2⟩ := hSw); go_simp) hHeld ?_
          try simp only [List.setIfInBounds_toArray]
          refine wpAnyH_ready (rs := [28]) (by kernel_rfl) (by simp) ?_
          refine AllReadyH.cons rfl (fun K hK => ?_) AllReadyH.nil
          have p1 := HP1.out _ HC.out
          have z1 := HZ1.out _ HC.out
          go_simp
          clear p1 z1
          have hfs := HPUT.out _ _ _ HC.out HO.out
          have hc8 := HC8.out _ (.slice V6 (sl + y) c6) HC.out
          generalize hgen : World.setCell _ ⟨gr, i * 3 + 1, none⟩ (.slice V6 (sl + y) c6) = u8 at hfs hc8 ⊢
          clear hgen
          have HS3 := Lib.hid hc8
          have HF8 := Lib.hid hfs
          clear hfs hc8
          refine hK.out _ _ (by first | (with_reducible exact HS3.out) | (with_reducible exact HCG.out _ HC.out)) (fun hHeld => ?_)
          clear hK K
          refine wpAnyH_done (by kernel_rfl) ?_ _
          have c0 := HS3.out.1
          have t2 := HS3.out.2
          have z2 := HZ8.out _ HF8.out.1
          go_wp2_with fail
          exact ⟨HEND.out _ _ (k) (by omega) HKS.out HC.out HF8.out.1 HF8.out.2, by simp [intOf]; omega⟩
        · have p1 := HP1.out _ HC.out
          go_simp
          clear p1
          skip
          refine hK.out _ _ (by first | (with_reducible exact HS3.out) | (with_reducible exact HCG.out _ HC.out)) (fun hHeld => ?_)
          clear hK K
          refine wpAnyH_ready (rs := [5]) (by kernel_rfl) (by simp) ?_
          refine AllReadyH.cons rfl (fun K hK => ?_) AllReadyH.nil
          go_simp
          have HO := Lib.hid (show ((wr.alloc (.cells #[] 5)).drew).ownsRow wr.heap.size 5 1 (.slice (some ⟨wr.heap.size, 0, none⟩) 0 0) 0 [] from ⟨rfl, .inr ⟨wr.heap.size, 0, #[], rfl, Nat.le_refl _, heap_alloc_new wr _, Nat.le_refl _, by unfold maxLen; omega, rfl, rfl⟩⟩)
          replace HC := Lib.hid (show Below wr.heap.size wr (wr.alloc (.cells #[] 5)).drew from Below.drew (bel_alloc (Below.refl _ _) _))
          refine hK.out _ _ (by first | (with_reducible exact HS3.out) | (with_reducible exact HCG.out _ HC.out)) (fun hHeld => ?_)
          clear hK K
          refine wpAnyH_ready (rs := [14]) (by kernel_rfl) (by simp) ?_
          refine AllReadyH.cons rfl (fun K hK => ?_) AllReadyH.nil
          refine step_append_rd rfl (.tmp 57) (.tmp 65) 29 rfl wr.heap.size 5 i0 _ 1 Try.underlying29 hi hz0 hz1 hz2 rfl (some ⟨wr.heap.size, 0, none⟩) 0 0 [] (by rfl) HO.out SA sl sc (cs f.sure) (by rfl) (HSA.out.below HC.out) (cs_one _) (by unfold maxLen; omega) (by omega) HC.out.size ?_
          intro V5 c5 x5 hown hb
          replace HO := Lib.hid hown
          replace HC := Lib.hid (HC.out.trans hb)
          clear hown hb
          show K (Act.put _ (some 66) _) _
          try simp only [Act.put]
          refine hK.out _ _ (by first | (with_reducible exact HS3.out) | (with_reducible exact HCG.out _ HC.out)) (fun hHeld => ?_)
          clear hK K
          refine wpAnyH_ready (rs := [25]) (by kernel_rfl) (by simp) ?_
          refine AllReadyH.cons rfl (fun K hK => ?_) AllReadyH.nil
          refine step_append_rd rfl (.tmp 66) (.tmp 76) 29 rfl wr.heap.size 5 i0 _ 1 Try.underlying29 hi hz0 hz1 hz2 rfl V5 (0 + sl) c5 ([] ++ cs f.sure) (by rfl) HO.out TA y tc (cs (f.tail.take y)) (by rfl) (HTA.out.below HC.out) (cs_one _) (by unfold maxLen; omega) (by omega) HC.out.size ?_
          intro V6 c6 x6 hown hb
          replace HO := Lib.hid hown
          replace HC := Lib.hid (HC.out.trans hb)
          clear hown hb
          show K (Act.put _ (some 77) _) _
          try simp only [Act.put]
          refine hK.out _ _ (by first | (with_reducible exact HS3.out) | (with_reducible exact HCG.out _ HC.out)) (fun hHeld => ?_)
          clear hK K
          refine held_take (i := 26) (d := 78) (v := (.pointer (some ⟨gr, i * 3, none⟩))) rfl rfl (by kernel_rfl) (by kernel_rfl) (by kernel_rfl) (fun _ _ _ h => h) (by kernel_rfl) (fun w hSw => by (obtain ⟨hS, hS2⟩ := hSw); go_simp) hHeld ?_
          try simp only [List.setIfInBounds_toArray]
          refine held_take (i := 27) (d := 79) (v := (.pointer (some ⟨gr, i * 3 + 1, none⟩))) rfl rfl (by kernel_rfl) (by kernel_rfl) (by kernel_rfl) (fun _ _ _ h => h) (by kernel_rfl) (fun w hSw => by (obtain ⟨hS, hS2⟩ := hSw); go_simp) hHeld ?_
          try simp only [List.setIfInBounds_toArray]
          refine wpAnyH_ready (rs := [28]) (by kernel_rfl) (by simp) ?_
          refine AllReadyH.cons rfl (fun K hK => ?_) AllReadyH.nil
          have p1 := HP1.out _ HC.out
          have z1 := HZ1.out _ HC.out
          go_simp
          clear p1 z1
          have hfs := HPUT.out _ _ _ HC.out HO.out
          have hc8 := HC8.out _ (.slice V6 (sl + y) c6) HC.out
          generalize hgen : World.setCell _ ⟨gr, i * 3 + 1, none⟩ (.slice V6 (sl + y) c6) = u8 at hfs hc8 ⊢
          clear hgen
          have HS3 := Lib.hid hc8
          have HF8 := Lib.hid hfs
          clear hfs hc8
          refine hK.out _ _ (by first | (with_reducible exact HS3.out) | (with_reducible exact HCG.out _ HC.out)) (fun hHeld => ?_)
          clear hK K
          refine wpAnyH_done (by kernel_rfl) ?_ _
          have c0 := HS3.out.1
          have t2 := HS3.out.2
          have z2 := HZ8.out _ HF8.out.1
          go_wp2_with fail
          exact ⟨HEND.out _ _ (k) (by omega) HKS.out HC.out HF8.out.1 HF8.out.2, by simp [intOf]; omega⟩
    · have hkn' : i = n := by omega
      subst hkn'
      have hd : fs.drop i = [] := List.drop_of_length_le (by rw [HN.out]; exact Nat.le_refl _)
      rw [hd, bootFs_nil, List.append_nil] at hBe
      rw [hd, List.append_nil, hBe] at hf
      have c0 := (cells_dk hbk).1
      have c2 := (cells_dk hbk).2.2.1
      have c3 := (cells_dk hbk).2.2.2
      have z2 := hbk.soft 2
      have z3 := hbk.soft 3
      have HBK := Lib.hid hbk
      have HF := Lib.hid hf
      have HKP := Lib.hid hkp
      clear hBe hbk hf hkp hd hlt
      go_wp2_with fail
      go_end0
      have h1 := blk_down HBK.out (.bool false)
      have h2 := blk_fuse h1.1 (.int .i64 (-1))
      have hg := h1.2.trans h2.2
      have hs := hg.size
      have hkp := HKP.out
      have hs0 := hkp.size
      refine ⟨rfl, fun b => S b ∨ w.heap.size ≤ b ∧ b < wr.heap.size, IsRef.mk h2.1 (.inl HSG.out) (fun k hk => ?_) (fun b hb => ?_) ?_, fun k hk => ?_, hkp.trans (Keeps.ofGrown hg HSG.out) (Grew.refl S w)⟩
      · rcases hk with hk | hk
        · have := HLT.out k hk
          omega
        · omega
      · have h := HOW.out b hb
        exact ⟨.inl h.1, h.2⟩
      · exact HF.out.keep hs (fun b hb hl => ⟨hb, hg.block b hl fun e => hb.2 (by injection e)⟩) fun b hb => hg.block b (files_lt HF.out b hb) fun e => (HOW.out b hb).2 (by injection e)
      · rcases hk with hk | hk
        · exact .inl hk
        · exact .inr hk.1
end Go.Proofs.Ytcnjjabjdepjgaa.Dsk
