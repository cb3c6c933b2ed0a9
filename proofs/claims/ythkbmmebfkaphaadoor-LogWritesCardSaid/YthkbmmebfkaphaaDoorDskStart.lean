/-
  Texts of earlier layers, as one.
-/
import Derived.Test.YthkbmmebfkaphaaDoorDskRest
import Derived.Test.YthkbmmebfkaphaaDoorDskLow
import Derived.Test.YthkbmmebfkaphaaDoorRBase
import Derived.Deep.Cut
import Derived.Lib.MinMax
import Derived.Laws.Pointers
/- The program's Boot: the power fails, and comes back. -/
namespace Go.Proofs.YthkbmmebfkaphaaDoor.Dsk
open Go.RowKit Mem Go.Maps

theorem look_self {hs : List Pf} (hr : Rising (hs.map (·.f))) {x : Pf} (hx : x ∈ hs) : look hs x.f.nm = some x := by
  cases hl : look hs x.f.nm with
  | none =>
    unfold look at hl
    rw [List.find?_eq_none] at hl
    exact absurd (eqn_self _) (hl x hx)
  | some z =>
    have hn : z.f.nm = x.f.nm := eqn_same (List.find?_some (p := fun h : Pf => eqn h.f.nm x.f.nm) hl)
    rw [rising_one hr (List.mem_of_find?_eq_some hl) hx hn]
def StartRel (d : Dk) (ks : List Int) (p m : Nat) (S : Nat → Prop) (w0 : World) (NA : Option Addr) (n c : Nat) (kv i : Value) (wr : World) : Prop :=
  ∃ (k : Nat) (done : List Fl) (ks' : List Int) (S' : Nat → Prop) (hs : List Pf) (KA : Option Addr) (kc : Nat), k ≤ n ∧ i = .int .i64 (k : Int) ∧ kv = .slice KA ks'.length kc ∧ done.length = k ∧ done ++ bootFs (d.fs.drop k) ks' = bootFs d.fs ks ∧
    Own wr S' p m { d with fs := done ++ d.fs.drop k } hs ∧ Grew S S' w0 ∧ Keeps S w0 wr ∧ FRd NA n c (d.fs.map fun f => .string f.nm) wr S' ∧ FRd KA ks'.length kc (vs ks') wr S' ∧ used (done ++ d.fs.drop k) ≤ 1099511627776
theorem cutA_block {A : Option Addr} {c k : Nat} {ad : Addr} (h : cutA A c k = some ad) : ∃ a, A = some a ∧ a.block = ad.block := by
  unfold cutA at h
  split at h
  · exact ⟨ad, h, rfl⟩
  · cases A with
    | none => cases h
    | some a =>
      injection h with h
      exact ⟨a, rfl, by rw [← h, add_block]⟩
theorem frd_cut {A : Option Addr} {n c : Nat} {z : Int} {ks : List Int} {w : World} {S : Nat → Prop} (h : FRd A (n + 1) c (vs (z :: ks)) w S) : FRd (cutA A c 1) n (c - 1) (vs ks) w S := by
  refine ⟨?_, fun h0 ad e hs => ?_⟩
  · have := h.1.cut (k := 1) (by omega)
    exact this
  · obtain ⟨a, ha, hb⟩ := cutA_block e
    exact h.2 (by omega) a ha (by rw [hb]; exact hs)
theorem boot_keep {f : Fl} {r : List Fl} {ks : List Int} (h : f.tail = []) : bootFs (f :: r) ks = f :: bootFs r ks := by
  obtain ⟨nm, sure, tail⟩ := f
  have h : tail = [] := h
  subst h
  rw [bootFs.eq_def]
  exact if_pos rfl
theorem boot_all {f : Fl} {r : List Fl} (h : f.tail ≠ []) : bootFs (f :: r) [] = ⟨f.nm, f.all.take (f.sure.length + f.tail.length), []⟩ :: bootFs r [] := by
  have e : f.all.take (f.sure.length + f.tail.length) = f.all := List.take_of_length_le (by rw [f.len_all]; exact Nat.le_refl _)
  rw [e, bootFs, if_neg h]
theorem boot_some {f : Fl} {r : List Fl} {z : Int} {ks : List Int} (h : f.tail ≠ []) : bootFs (f :: r) (z :: ks) = ⟨f.nm, f.all.take (f.sure.length + (min (max z 0) (f.tail.length : Int)).toNat), []⟩ :: bootFs r ks := by
  have e : (max 0 (min z (f.tail.length : Int))).toNat = (min (max z 0) (f.tail.length : Int)).toNat := by omega
  have e2 : f.all.take (f.sure.length + (min (max z 0) (f.tail.length : Int)).toNat) = f.sure ++ f.tail.take (min (max z 0) (f.tail.length : Int)).toNat := by
    unfold Fl.all
    rw [List.take_length_add_append]
  rw [e2, bootFs, if_neg h, e]
/-- A round's end: the file at k was turned (or was without a tail), k + 1 are done. -/
theorem start_step {d : Dk} {ks ks1 ks2 : List Int} {done : List Fl} {k : Nat} {f g : Fl} {r : List Fl} (hd : done.length = k) (hr : d.fs.drop k = f :: r) (hb : done ++ bootFs (d.fs.drop k) ks1 = bootFs d.fs ks) (hg : bootFs (f :: r) ks1 = g :: bootFs r ks2) :
    (done ++ d.fs.drop k).set k g = (done ++ [g]) ++ d.fs.drop (k + 1) ∧ (done ++ [g]) ++ bootFs (d.fs.drop (k + 1)) ks2 = bootFs d.fs ks ∧ (done ++ d.fs.drop k)[k]? = some f := by
  have h1 : d.fs.drop (k + 1) = r := by
    have : (d.fs.drop k).drop 1 = d.fs.drop (k + 1) := by rw [List.drop_drop]
    rw [← this, hr]
    rfl
  subst hd
  rw [h1, hr] at *
  refine ⟨by simp, ?_, by simp⟩
  rw [hg] at hb
  rw [← hb, List.append_assoc]
  rfl
theorem cut_len (f : Fl) (j : Nat) : (⟨f.nm, f.all.take j, []⟩ : Fl).len ≤ f.len := by
  show (f.all.take j).length + 0 ≤ _
  rw [List.length_take, ← f.len_all]
  omega
theorem Own.name_le {w : World} {S : Nat → Prop} {p m : Nat} {d : Dk} {hs : List Pf} (h : Own w S p m d hs) {x : Pf} (hx : x ∈ hs) : x.f.nm.size ≤ maxLen := by
  have h1 := strKeys_le h.map Tryd.underlying9 x.f.nm.data.toList (by
    show _ ∈ (ent hs).map fun p => strOf p.1
    unfold ent
    rw [List.map_map]
    exact List.mem_map.2 ⟨x, hx, rfl⟩)
  rwa [Array.length_toList] at h1
theorem start_next {d : Dk} {ks ks1 ks2 : List Int} {done : List Fl} {k n c p m kc2 : Nat} {x : Pf} {g : Fl} {r : List Fl} {S S1 : Nat → Prop} {w wr u : World} {hs1 : List Pf} {NA KA2 : Option Addr} (hk : k < n) (hdl : done.length = k) (hr : d.fs.drop k = x.f :: r)
    (hd : done ++ bootFs (d.fs.drop k) ks1 = bootFs d.fs ks) (hg : bootFs (x.f :: r) ks1 = g :: bootFs r ks2) (hgn : g.nm = x.f.nm) (hgl : g.len ≤ x.f.len) (how : Own wr S1 p m { d with fs := done ++ d.fs.drop k } hs1) (hx : hs1[k]? = some x) (hgrew : Grew S S1 w) (hkeeps : Keeps S w wr)
    (hnames : FRd NA n c (d.fs.map fun f => .string f.nm) wr S1) (hkeys : FRd KA2 ks2.length kc2 (vs ks2) wr S1) (hused : used (done ++ d.fs.drop k) ≤ 1099511627776) (ht : Turned x g wr u) :
    StartRel d ks p m S w NA n c (.slice KA2 ks2.length kc2) (.int .i64 ((k + 1 : Nat) : Int)) u := by
  obtain ⟨e1, e2, e3⟩ := start_step hdl hr hd hg
  obtain ⟨x', hxg, hb, hin, hrow, hkx⟩ := ht
  have hmx : x ∈ hs1 := List.mem_of_getElem? hx
  have hkS : Keeps S1 wr u := ⟨hkx.os, hkx.tape, hkx.output, hkx.size, fun j hj hS => hkx.block j hj fun hh => hS (how.out x hmx j hh).2.2⟩
  have hset := how.setf (x' := x') hx hkx hb (by rw [hxg]; exact hgn) hin hrow rfl
  have hgp : Grew S1 (Plus S1 wr u) wr := plus_grew
  have hu := used_modify (g := fun _ => g) e3
  rw [modify_set _ e3, e1] at hu
  refine ⟨k + 1, done ++ [g], ks2, Plus S1 wr u, hs1.set k x', KA2, kc2, by omega, rfl, rfl, by simp [hdl], e2, ?_, hgrew.trans hgp hkeeps.size, hkeeps.trans hkS hgrew, (frame_rd _ _ _ _).go hnames hkS hgp, (frame_rd _ _ _ _).go hkeys hkS hgp, by omega⟩
  rw [hxg] at hset
  simp only [e1] at hset
  exact hset
theorem start_same {d : Dk} {ks ks1 : List Int} {done : List Fl} {k n c p m kc1 : Nat} {f : Fl} {r : List Fl} {S S1 : Nat → Prop} {w wr : World} {hs1 : List Pf} {NA KA1 : Option Addr} (hk : k < n) (hdl : done.length = k) (hr : d.fs.drop k = f :: r)
    (hd : done ++ bootFs (d.fs.drop k) ks1 = bootFs d.fs ks) (ht : f.tail = []) (how : Own wr S1 p m { d with fs := done ++ d.fs.drop k } hs1) (hgrew : Grew S S1 w) (hkeeps : Keeps S w wr)
    (hnames : FRd NA n c (d.fs.map fun f => .string f.nm) wr S1) (hkeys : FRd KA1 ks1.length kc1 (vs ks1) wr S1) (hused : used (done ++ d.fs.drop k) ≤ 1099511627776) (q : Nat) :
    StartRel d ks p m S w NA n c (.slice KA1 ks1.length kc1) (.int .i64 ((k + 1 : Nat) : Int)) (wr.drewN q) := by
  obtain ⟨e1, e2, e3⟩ := start_step hdl hr hd (boot_keep ht)
  have e4 : done ++ d.fs.drop k = (done ++ [f]) ++ d.fs.drop (k + 1) := by
    rw [← e1]
    apply List.ext_getElem?
    intro j
    rw [List.getElem?_set]
    split
    · rename_i e
      subst e
      rw [e3]
      rw [if_pos (List.getElem?_eq_some_iff.1 e3).1]
    · rfl
  have hb := below_drewN (Below.refl wr.heap.size wr) q
  have ho := how.below hb
  rw [e4] at ho hused
  have hkk : Keeps S1 wr (wr.drewN q) := Keeps.ofBelow hb
  exact ⟨k + 1, done ++ [f], ks1, S1, hs1, KA1, kc1, by omega, rfl, rfl, by simp [hdl], e2, ho, hgrew, hkeeps.trans hkk hgrew, (frame_rd _ _ _ _).go hnames hkk (Grew.refl _ _), (frame_rd _ _ _ _).go hkeys hkk (Grew.refl _ _), hused⟩
set_option maxRecDepth 20000 in
set_option maxHeartbeats 4000000 in
theorem dboot_any (p : Nat) (S : Nat → Prop) (d : Dk) (KA : Option Addr) (kn kc : Nat) (ks : List Int) (w : World) (h : DI w S p d) (hf : Fine d) (hrk : Rd w KA kn kc (vs ks)) (hko : Outs S kn KA) :
    Calls Tryd.prog 13 #[ptr p, .slice KA kn kc] w (fun e w' => e = .returned (.tuple #[]) ∧ Stays DI p S (Dsk.boot ks d) w w') := by
  obtain ⟨m, hs, ho⟩ := h
  have hkl : kn = ks.length := by have := hrk.len; unfold vs at this; rw [List.length_map] at this; omega
  subst hkl
  have hkm := hrk.le
  have hkx := hrk.cap
  unfold maxLen at hkx
  have HC := Lib.hid (names_any p m S d hs w ho hf.length)
  have HO := Lib.hid ho
  have HF := Lib.hid hf
  have HK := Lib.hid (show FRd KA ks.length kc (vs ks) w S from ⟨hrk, hko⟩)
  clear ho hf hrk hko
  unfold ptr at HC ⊢
  go_enter Tryd.func13, Tryd.ntmps13
  go_wp2_with fail
  refine HC.out.mono ?_
  rintro e w1 ⟨NA, n, c, rfl, hown, hb⟩
  have hrd := Rd.own hown
  have hnl : d.fs.length = n := by have := hrd.len; rwa [List.length_map] at this
  have hcap := And.intro hrd.le hrd.cap
  unfold maxLen at hcap
  have hn16 : n ≤ 16 := by rw [← hnl]; exact HF.out.length
  have hstart : StartRel d ks p m S w NA n c (.slice KA ks.length kc) (.int .i64 0) w1 := by
    refine ⟨0, [], ks, S, hs, KA, kc, Nat.zero_le _, rfl, rfl, rfl, rfl, HO.out.below hb, Grew.refl S w, Keeps.ofBelow hb, ⟨hrd, fun h0 ad e hS => ?_⟩, (frame_rd KA ks.length kc (vs ks)).go HK.out (Keeps.ofBelow hb) (Grew.refl S w), HF.out.used⟩
    subst e
    have h1 := (hown.lt ad.block rfl).1
    have h2 := HO.out.lt _ hS
    omega
  have HST := Lib.hid hstart
  have HNL := Lib.hid hnl
  clear hown hb hrd hnl hstart HC HK
  go_wp2_with fail
  go_loopw [1, 11] (StartRel d ks p m S w NA n c) (fun _ i _ => n - (intOf i).toNat)
  case atStart => exact HST.out
  case round =>
    obtain ⟨k, done, ks1, S1, hs1, KA1, kc1, hk, rfl, rfl, hdl, hdone, hown, hgrew, hkeeps, hnames, hkeys, hused⟩ := hrel
    have HD1 := Lib.hid hdl
    have HD2 := Lib.hid hdone
    have HOW := Lib.hid hown
    have HG := Lib.hid hgrew
    have HKP := Lib.hid hkeeps
    have HNM := Lib.hid hnames
    have HKY := Lib.hid hkeys
    have HUS := Lib.hid hused
    clear hdl hdone hown hgrew hkeeps hnames hkeys hused HST
    by_cases hlt : k < n
    · have b0 : decide ((k : Int) < (n : Int)) = true := decide_eq_true (by omega)
      have b1 : decide ((n : Int) ≤ (k : Int)) = false := decide_eq_false (by omega)
      have b2 : ¬ n ≤ k := by omega
      obtain ⟨f, hfk⟩ : ∃ f, d.fs[k]? = some f := ⟨_, List.getElem?_eq_getElem (by rw [HNL.out]; exact hlt)⟩
      have hdr : d.fs.drop k = f :: d.fs.drop (k + 1) := by
        obtain ⟨hl, rfl⟩ := List.getElem?_eq_some_iff.1 hfk
        exact List.drop_eq_getElem_cons hl
      have hat : (done ++ d.fs.drop k)[k]? = some f := by
        have h1 := HD1.out
        rw [hdr, ← h1]
        simp
      obtain ⟨x, hx, hxf⟩ : ∃ x, hs1[k]? = some x ∧ x.f = f := by
        have h1 := HOW.out.fs
        have h2 : (hs1.map (·.f))[k]? = some f := by rw [h1]; exact hat
        rw [List.getElem?_map, Option.map_eq_some_iff] at h2
        exact h2
      subst hxf
      have hmx : x ∈ hs1 := List.mem_of_getElem? hx
      have hlk := look_self (by rw [HOW.out.fs]; exact HOW.out.up) hmx
      have hfind := HOW.out.find (s := x.f.nm) (HOW.out.name_le hmx)
      rw [hlk] at hfind
      unfold pv at hfind
      obtain ⟨ad, uz, rfl, hadl, hz, hcz⟩ := HNM.out.1.at_ hlt
      have huz : uz = .string x.f.nm := by
        rw [List.getElem?_map, hfk] at hz
        exact (Option.some.inj hz).symm
      subst huz
      have hin := HOW.out.file x hmx
      have c0 := HOW.out.cells.1
      obtain ⟨k0, k1⟩ := hin.cells
      have hal : x.f.all.length = x.f.sure.length + x.f.tail.length := x.f.len_all
      have hle := len_used hat
      have hle2 := HUS.out
      have hcut := fun (q j : Nat) (hj : j ≤ x.f.all.length) => fcut_any x j (wr.drewN q) (hin.keep fun _ _ => rfl) hj (by omega)
      obtain ⟨s0, hs0⟩ : ∃ v, x.f.sure.length = v := ⟨_, rfl⟩
      obtain ⟨T, hT⟩ : ∃ v, x.f.tail.length = v := ⟨_, rfl⟩
      obtain ⟨L, hL⟩ : ∃ v, x.f.all.length = v := ⟨_, rfl⟩
      rw [hL, hs0, hT] at hal
      rw [hs0, hT] at hle
      rw [hL] at k0
      rw [hs0] at k1
      rw [hL] at hcut
      have hwr : IntKind.i64.wrap ((L : Int) - (s0 : Int)) = (T : Int) := by
        rw [wrap64 (by omega) (by omega)]
        omega
      obtain ⟨nm, hnm⟩ : ∃ v, x.f.nm = v := ⟨_, rfl⟩
      have HCUT := Lib.hid hcut
      have HX := Lib.hid hx
      have HDR := Lib.hid hdr
      have HS0 := Lib.hid hs0
      have HTL := Lib.hid hT
      have HAL := Lib.hid hal
      have HNME := Lib.hid hnm
      have HLE := Lib.hid hle
      rw [hnm] at hfind hcz
      clear hx hdr hat hfk hmx hlk hz hin hle2 hcut hs0 hT hL hal hnm hle
      by_cases hT0 : T = 0
      · have b3 : ((T : Int) == 0) = true := by rw [hT0]; rfl
        have htl : x.f.tail = [] := List.eq_nil_of_length_eq_zero (by rw [HTL.out]; exact hT0)
        have HTE := Lib.hid htl
        clear htl hT0
        go_upto_region 4 with fail
        go_quiet (fail)
        go_wp2_with fail
        exact ⟨start_same hlt HD1.out HDR.out HD2.out HTE.out HOW.out HG.out HKP.out HNM.out HKY.out HUS.out nq, by simp [intOf]; omega⟩
      · have b3 : ((T : Int) == 0) = false := by
          cases e : ((T : Int) == 0)
          · rfl
          · simp at e; omega
        have htl : x.f.tail ≠ [] := fun e => by
          have := HTL.out
          rw [e] at this
          simp at this
          omega
        have HTE := Lib.hid htl
        clear htl hT0
        go_upto_region 4 with fail
        go_quiet (fail)
        cases ks1 with
        | nil =>
          have HC := Lib.hid (HCUT.out nq (s0 + T) (by have := HAL.out; omega))
          have hw2 : IntKind.i64.wrap ((s0 : Int) + (T : Int)) = ((s0 + T : Nat) : Int) := by
            have := HLE.out
            have := HUS.out
            rw [wrap64 (by omega) (by omega)]
            omega
          obtain ⟨K, hK⟩ : ∃ v, s0 + T = v := ⟨_, rfl⟩
          rw [hK] at hw2 HC
          have HKE := Lib.hid hK
          clear hK HCUT
          go_wp2_with fail
          with_reducible refine HC.out.mono ?_
          rintro e u ⟨rfl, ht⟩
          have HT := Lib.hid ht.drewN
          clear ht HC
          go_wp2_with fail
          refine ⟨start_next (ks2 := []) hlt HD1.out HDR.out HD2.out (boot_all HTE.out) rfl (cut_len _ _) HOW.out HX.out HG.out HKP.out HNM.out HKY.out HUS.out (by rw [HS0.out, HTL.out, HKE.out]; exact HT.out), by simp [intOf]; omega⟩
        | cons z ks2 =>
          have hky := HKY.out
          obtain ⟨bd, uz, rfl, hbl, hbz, hbc⟩ := hky.1.at_ (k := 0) (by simp)
          have hbz : uz = .int .i64 z := (Option.some.inj hbz).symm
          subst hbz
          have hcut1 := frd_cut hky
          have hslc : ∀ u : World, (Instr.slice 36 (.slice (some bd) (z :: ks2).length kc1) (some (.int .i64 1)) none none).run Tryd.prog u = .ok (.slice (cutA (some bd) kc1 1) ks2.length (kc1 - 1)) u := fun u => by
            have hsz : ∀ w, (sizeOf (Tryd.prog.elem 36)).run Tryd.prog w = .ok 1 w := fun w => by kernel_rfl
            exact run_cut (P := Tryd.prog) 36 Tryd.underlying36 hsz (some bd) (ks2.length + 1) kc1 1 (by omega) u
          obtain ⟨q, hq⟩ : ∃ v, (z :: ks2).length = v := ⟨_, rfl⟩
          have hq2 : q = ks2.length + 1 := by rw [← hq]; rfl
          have b5 : decide ((0 : Int) < (q : Int)) = true := decide_eq_true (by omega)
          have b6 : decide ((q : Int) ≤ 0) = false := decide_eq_false (by omega)
          have b7 : ¬ q ≤ 0 := by omega
          have b8 : 0 < q := by omega
          have hq1 := hky.1.le
          have hq0 := hky.1.cap
          unfold maxLen at hq0
          obtain ⟨M1, hM1⟩ : ∃ M1 : Int, max z 0 = M1 := ⟨_, rfl⟩
          obtain ⟨M2, hM2⟩ : ∃ M2 : Int, min M1 (T : Int) = M2 := ⟨_, rfl⟩
          have hmx : ∀ (W : World) (ts : Array TypeId) (ty : TypeId), (Builtin.max_ ts ty #[.int .i64 z, .int .i64 0]).run Tryd.prog W = .ok (.int .i64 M1) W := fun W ts ty => by rw [Lib.run_max_ints, hM1]
          have hmn : ∀ (W : World) (ts : Array TypeId) (ty : TypeId), (Builtin.min_ ts ty #[.int .i64 M1, .int .i64 (T : Int)]).run Tryd.prog W = .ok (.int .i64 M2) W := fun W ts ty => by rw [Lib.run_min_ints, hM2]
          have hM0 : 0 ≤ M2 ∧ M2 ≤ T := by omega
          obtain ⟨j, rfl⟩ := Int.eq_ofNat_of_zero_le hM0.1
          have hj : (min (max z 0) ((x.f.tail.length : Nat) : Int)).toNat = j := by rw [HTL.out, hM1, hM2]; rfl
          have hjT : j ≤ T := by omega
          have HC := Lib.hid (HCUT.out nq (s0 + j) (by have := HAL.out; omega))
          have hw2 : IntKind.i64.wrap ((s0 : Int) + (j : Int)) = ((s0 + j : Nat) : Int) := by
            have := HLE.out
            have := HUS.out
            rw [wrap64 (by omega) (by omega)]
            omega
          obtain ⟨K, hK⟩ : ∃ v, s0 + j = v := ⟨_, rfl⟩
          rw [hK] at hw2 HC
          rw [hq] at hslc hq1
          have hbc0 : wr.cell? bd = some (.int .i64 z) := by
            have e : bd.add 0 = bd := by simp [Addr.add]
            rw [e] at hbc
            exact hbc
          have HKE := Lib.hid hK
          have HJ := Lib.hid hj
          have HCU := Lib.hid hcut1
          rw [hq]
          clear hK HCUT hky hq hq2 hM1 hM2 hM0 hj hjT hcut1
          go_wp2_with fail
          with_reducible refine HC.out.mono ?_
          rintro e u ⟨rfl, ht⟩
          have HT := Lib.hid ht.drewN
          clear ht HC
          go_wp2_with fail
          exact ⟨start_next (ks2 := ks2) hlt HD1.out HDR.out HD2.out (boot_some HTE.out) rfl (cut_len _ _) HOW.out HX.out HG.out HKP.out HNM.out HCU.out HUS.out (by rw [HS0.out, HJ.out, HKE.out]; exact HT.out), by simp [intOf]; omega⟩
    · have hkn : k = n := by omega
      subst hkn
      have b0 : decide ((k : Int) < (k : Int)) = false := decide_eq_false (by omega)
      have e0 : d.fs.drop k = [] := List.drop_of_length_le (by rw [HNL.out]; exact Nat.le_refl _)
      have e1 : done = bootFs d.fs ks := by
        have h := HD2.out
        rw [e0, bootFs_nil, List.append_nil] at h
        exact h
      have ho := HOW.out
      rw [e0, List.append_nil, e1] at ho
      obtain ⟨c0, c1, c2, c3⟩ := ho.cells
      have f2 := ho.box.soft 2
      have f3 := ho.box.soft 3
      have hb := (ho.box.put 2 (.int .i64 (-1))).put 3 (.bool false)
      have hg1 := set_grown wr p 2 (.int .i64 (-1))
      have hg2 := set_grown (wr.setCell ⟨p, 2, none⟩ (.int .i64 (-1))) p 3 (.bool false)
      have hg : wr.grownBy ((wr.setCell ⟨p, 2, none⟩ (.int .i64 (-1))).setCell ⟨p, 3, none⟩ (.bool false)) (some p) := ⟨hg2.os.trans hg1.os, hg2.tape.trans hg1.tape, hg2.output.trans hg1.output, Nat.le_trans hg1.size hg2.size, fun j hj hn => (hg2.block j (Nat.lt_of_lt_of_le hj hg1.size) hn).trans (hg1.block j hj hn)⟩
      have hend := ho.setp (d' := ⟨bootFs d.fs ks, d.room, -1, false⟩) hg hb rfl
      have hkw : Keeps S1 wr ((wr.setCell ⟨p, 2, none⟩ (.int .i64 (-1))).setCell ⟨p, 3, none⟩ (.bool false)) := Keeps.ofGrown hg ho.sp
      have HE := Lib.hid (show Stays DI p S (Dsk.boot ks d) w ((wr.setCell ⟨p, 2, none⟩ (.int .i64 (-1))).setCell ⟨p, 3, none⟩ (.bool false)) from ⟨S1, ⟨m, hs1, hend⟩, HG.out, HKP.out.trans hkw HG.out⟩)
      clear hlt ho e0 e1 hb hg1 hg2 hg hend hkw c0 c1
      go_wp2_with fail
      go_end0
      exact ⟨rfl, HE.out⟩
end Go.Proofs.YthkbmmebfkaphaaDoor.Dsk
