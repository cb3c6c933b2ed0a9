/-
  Texts of earlier layers, as one.
-/
import Derived.Test.YtcnjjabjdepjgaaDskPlaysWalk
import Derived.Test.YtcnjjabjdepjgaaRBase
import Derived.Deep.Cut
/- The law of room: never more bytes than room, nor more files than may be; what is read stays by itself. -/
namespace Go.Proofs.Ytcnjjabjdepjgaa.Dsk
open Go.RowKit Mem Cod

def inc (b : Nat) : Nat := (b + 1) % 256
theorem inc_ne (b : Nat) : inc b ≠ b := by unfold inc; omega
theorem inc_wrap (b : Nat) : IntKind.u8.wrap ((b : Int) + 1) = ((inc b : Nat) : Int) := by
  unfold inc
  simp [IntKind.wrap, IntKind.bits, IntKind.signed]
/-- A byte more for each of the first k. -/
def incs (k : Nat) (l : List Nat) : List Nat := (l.take k).map inc ++ l.drop k
theorem incs_zero (l : List Nat) : incs 0 l = l := rfl
theorem incs_all (l : List Nat) : incs l.length l = l.map inc := by unfold incs; simp
theorem incs_len (k : Nat) (l : List Nat) (h : k ≤ l.length) : (incs k l).length = l.length := by unfold incs; simp; omega
theorem incs_at {k : Nat} {l : List Nat} {b : Nat} (h : l[k]? = some b) : (incs k l)[k]? = some b := by
  obtain ⟨hl, rfl⟩ := List.getElem?_eq_some_iff.1 h
  unfold incs
  rw [List.getElem?_append_right (by simp; omega)]
  have : k - ((l.take k).map inc).length = 0 := by simp; omega
  rw [this, List.getElem?_drop]
  simp
theorem incs_set {k : Nat} {l : List Nat} {b : Nat} (h : l[k]? = some b) : (incs k l).set k (inc b) = incs (k + 1) l := by
  obtain ⟨hl, rfl⟩ := List.getElem?_eq_some_iff.1 h
  unfold incs
  have h1 : ((l.take k).map inc).length = k := by simp; omega
  rw [List.set_append_right _ _ (by omega), h1, Nat.sub_self, List.drop_eq_getElem_cons hl, List.set_cons_zero, List.take_add_one, List.getElem?_eq_getElem hl, List.map_append, List.append_assoc]
  rfl
theorem map_inc_ne {l : List Nat} (h : l ≠ []) : l.map inc ≠ l := by
  cases l with
  | nil => exact absurd rfl h
  | cons a r =>
    intro e
    injection e with e1 e2
    exact inc_ne a e1
theorem cs_set (l : List Nat) (k b : Nat) : (cs l).set k (.int .u8 (b : Int)) = cs (l.set k b) := by
  unfold cs
  rw [List.map_set]
theorem act_room (z : Int) (x y : ByteArray) (p : List Nat) (nn : Int) (ks : List Int) (d : Dk) : (act z x y p nn ks d).2.room = d.room := by
  have hw : ∀ (f : Dk → Nat × Dk), (∀ d, (f d).2.room = d.room ∧ (f d).2.fuse = d.fuse) → (whole f d).2.room = d.room := fun f hf => by
    unfold whole
    split
    · exact (deed_fs d).2
    · rw [(hf _).1, (deed_fs d).2]
  unfold act
  repeat' split
  · exact hw _ (same_append x p)
  · exact hw _ (same_sync x)
  · exact hw _ (same_move x y)
  · exact hw _ (same_remove x)
  · rfl
  · rfl
  · rfl
  · exact hw _ (same_cut x nn)
  · rfl
/-- All names are short. -/
def Named (d : Dk) : Prop := ∀ f ∈ d.fs, f.nm.size ≤ 16
def RoomRel (I : Held) (w0 : World) (p n : Nat) (room : Int) (i : Value) (wr : World) : Prop := ∃ (k : Nat) (d : Dk), k ≤ n ∧ i = .int .i64 (k : Int) ∧ Fine d ∧ d.room = room ∧ Named d ∧ Mine I (FNew w0) wr p d
def NameR (I : Held) (w0 : World) (p : Nat) (d : Dk) (NL : List Fl) (NA : Option Addr) (n c : Nat) (i : Value) (wr : World) : Prop :=
  ∃ k : Nat, k ≤ n ∧ i = .int .i64 (k : Int) ∧ Mine I (fun v S => FNew w0 v S ∧ FRd NA n c (NL.map fun f => .string f.nm) v S) wr p d
def IncRel (I : Held) (w0 : World) (p : Nat) (d : Dk) (NL : List Fl) (NA : Option Addr) (n c : Nat) (A : Option Addr) (n1 c1 : Nat) (bs : List Nat) (i : Value) (wr : World) : Prop :=
  ∃ k : Nat, k ≤ n1 ∧ i = .int .i64 (k : Int) ∧ wr.ownsRow w0.heap.size 5 1 (.slice A n1 c1) n1 (cs (incs k bs)) ∧ ∃ S, I wr S p d ∧ FNew w0 wr S ∧ FRd NA n c (NL.map fun f => .string f.nm) wr S ∧ Outs S n1 A ∧ (∀ ad, A = some ad → ∀ ad', NA = some ad' → ad'.block ≠ ad.block)
theorem mem_put {f x : Fl} : ∀ {l : List Fl}, x ∈ put f l → x = f ∨ x ∈ l
  | [], h => by simpa [put] using h
  | a :: l, h => by
    unfold put at h
    split at h
    · simpa using h
    · rcases List.mem_cons.1 h with rfl | h
      · simp
      · rcases mem_put h with h | h
        · exact .inl h
        · simp [h]
theorem mem_mod {l : List Fl} {i : Nat} {g : Fl → Fl} (hg : ∀ f, (g f).nm = f.nm) {x : Fl} (hx : x ∈ l.modify i g) : ∃ y ∈ l, y.nm = x.nm := by
  obtain ⟨j, hj⟩ := List.getElem?_of_mem hx
  rw [List.getElem?_modify] at hj
  cases hl : l[j]? with
  | none => rw [hl] at hj; cases hj
  | some y =>
    rw [hl] at hj
    refine ⟨y, List.mem_of_getElem? hl, ?_⟩
    have hj : some (if i = j then g y else y) = some x := hj
    injection hj with hj
    rw [← hj]
    split
    · exact (hg y).symm
    · rfl
theorem mem_boot : ∀ {l : List Fl} {ks : List Int} {x : Fl}, x ∈ bootFs l ks → ∃ y ∈ l, y.nm = x.nm
  | [], ks, x, h => by rw [bootFs_nil] at h; cases h
  | f :: r, ks, x, h => by
    have hs := bootFs_step f r ks 0
    rw [List.drop_zero] at hs
    rw [hs] at h
    rcases List.mem_cons.1 h with rfl | h
    · exact ⟨f, by simp, rfl⟩
    · obtain ⟨y, hy, e⟩ := mem_boot h
      exact ⟨y, by simp [hy], e⟩
theorem name_short {s : ByteArray} (h : ¬ isName s = false) : s.size ≤ 16 := by
  have h1 : isName s = true := by simpa using h
  unfold isName at h1
  simp only [Bool.and_eq_true, decide_eq_true_eq] at h1
  exact h1.2.2
theorem act_named {d : Dk} (h : Named d) (z : Int) (x y : ByteArray) (p : List Nat) (nn : Int) (ks : List Int) : Named (act z x y p nn ks d).2 := by
  have hd : Named (deed d) := fun f hf => h f (by rw [(deed_fs d).1] at hf; exact hf)
  have hw : ∀ (f : Dk → Nat × Dk), (∀ d, Named d → Named (f d).2) → Named (whole f d).2 := fun f hf => by
    unfold whole
    split
    · exact hd
    · exact hf _ hd
  have hm : ∀ {d : Dk} {i : Nat} {g : Fl → Fl}, Named d → (∀ f, (g f).nm = f.nm) → ∀ f ∈ d.fs.modify i g, f.nm.size ≤ 16 := fun {d i g} hn hg f hf => by
    obtain ⟨y, hy, e⟩ := mem_mod hg hf
    rw [← e]
    exact hn y hy
  have hdrop : ∀ {s : ByteArray} {l : List Fl} {f : Fl}, f ∈ drop s l → f ∈ l := fun {s l f} hf => (List.mem_filter.1 hf).1
  unfold act
  repeat' split
  · refine hw _ fun d hn => ?_
    unfold doAppend
    split
    · exact hn
    split
    · exact hn
    split
    · split
      · exact hn
      · intro f hf
        rename_i hnm _ _ _ _
        rcases mem_put hf with rfl | hf
        · exact name_short hnm
        · exact hn f hf
    · exact hm hn fun _ => rfl
  · refine hw _ fun d hn => ?_
    unfold doSync
    split
    · exact hn
    · exact hm hn fun _ => rfl
  · refine hw _ fun d hn => ?_
    unfold doMove
    split
    · exact hn
    · split
      · exact hn
      · intro f hf
        rename_i hnm
        rcases mem_put hf with rfl | hf
        · exact name_short hnm
        · exact hn f (hdrop (hdrop hf))
  · refine hw _ fun d hn => ?_
    unfold doRemove
    split
    · exact hn
    · exact fun f hf => hn f (hdrop hf)
  · exact h
  · exact h
  · intro f hf
    obtain ⟨y, hy, e⟩ := mem_boot hf
    rw [← e]
    exact h y hy
  · refine hw _ fun d hn => ?_
    unfold doCut
    split
    · exact hn
    · split
      · exact hn
      · exact hm hn fun _ => rfl
  · exact h
/-- A name that there is is read. -/
theorem read_there {d : Dk} {f : Fl} (hd : d.dn = false) (hf : f ∈ d.fs) : (Dsk.read f.nm d).2 = 0 := by
  unfold Dsk.read
  rw [if_neg (by rw [hd]; decide)]
  cases hp : place d.fs f.nm with
  | none =>
    have := place_none hp f hf
    rw [eqn_self] at this
    cases this
  | some i => rfl
set_option maxRecDepth 20000 in
set_option maxHeartbeats 8000000 in
theorem disk_room {I : Held} (hH : Has I) (rm : Nat) (A : Option Addr) (n c : Nat) (l : List Ac) (w : World) (hrm : rm < 256) (h : Acts w A n c l) (hl : ∀ a ∈ l, Right a) :
    Calls Try.prog 6 #[.int .u8 (rm : Int), .slice A n c] w (Tells true w) := by
  have hFr : Frame (FNew w) := frame_new w
  have HG := Lib.hid (great_any A n c l w h)
  have HW := Lib.hid (fun (u : World) => disk_awake hH u)
  have HAC := Lib.hid h
  have HLR := Lib.hid hl
  have hwx : IntKind.i64.wrap (rm : Int) = (rm : Int) := wrap64 (by omega) (by omega)
  clear h hl
  go_enter Try.func6, Try.ntmps6
  go_wp2_with fail
  refine HG.out.mono ?_
  rintro e u ⟨t, rfl, hsm, hu⟩
  replace hu := hu.symm
  subst hu
  have HSM := Lib.hid hsm
  clear hsm HG
  cases t with
  | true =>
    go_wp2_with fail
    refine (HW.out _).mono ?_
    rintro e w1 ⟨rfl, hb⟩
    have HB := Lib.hid hb
    clear hb
    go_wp2_with fail
    go_ret
    exact ⟨rfl, HB.out⟩
  | false =>
    have HN := Lib.hid (hH.new (rm : Int) w)
    go_wp2_with fail
    refine HN.out.mono ?_
    rintro e w1 ⟨p, S0, rfl, hI0, hlo0, hb0⟩
    have hM0 : Mine I (FNew w) w1 p (newDk (rm : Int)) := ⟨S0, hI0, hlo0, hb0⟩
    have HM0 := Lib.hid hM0
    have hroom : (newDk (rm : Int)).room = (rm : Int) := by show max (rm : Int) 0 = _; omega
    have HRO := Lib.hid hroom
    have hnc := HAC.out.2.1
    have hcc := HAC.out.2.2.1
    unfold maxLen at hcc
    clear hI0 hlo0 hb0 hM0 HN hroom
    go_wp2_with fail
    go_loopw [6] (RoomRel I w p n (rm : Int)) (fun i _ => n - (intOf i).toNat)
    case atStart => exact ⟨0, newDk (rm : Int), Nat.zero_le _, rfl, fine_new (by omega), HRO.out, (fun f hf => by cases hf), HM0.out⟩
    case round =>
      obtain ⟨k, d, hk, rfl, hfine, hdr, hnamed, hmine⟩ := hrel
      have HND := Lib.hid hnamed
      have HMI := Lib.hid hmine
      have HDR := Lib.hid hdr
      clear hmine hdr hnamed HM0
      by_cases hlt : k < n
      · obtain ⟨a, ha⟩ : ∃ a, l[k]? = some a := ⟨_, List.getElem?_eq_getElem (by rw [HAC.out.1]; exact hlt)⟩
        have hma : a ∈ l := List.mem_of_getElem? ha
        obtain ⟨bl, o, PA, pc, KA, kc, hA, hlb, c0, c1, c2, c3, c4, c5, hp, hks⟩ := HAC.out.2.2.2 k a ha
        subst hA
        have hright := HLR.out a hma
        have hsmall := (HSM.out (by first | rfl | trivial)).2 a hma
        obtain ⟨S, hI, hSw, hbw⟩ := HMI.out
        have hcell : ∀ j, wr.cell? ⟨bl, j, none⟩ = w.cell? ⟨bl, j, none⟩ := fun j => hbw.cell (p := ⟨bl, j, none⟩) hlb
        have d0 := (hcell _).trans c0
        have d1 := (hcell _).trans c1
        have d2 := (hcell _).trans c2
        have d3 := (hcell _).trans c3
        have d4 := (hcell _).trans c4
        have d5 := (hcell _).trans c5
        obtain ⟨z, x, y, pb, nn, ks⟩ := a
        obtain ⟨hx, hy, hnn⟩ := hright
        obtain ⟨hpl, hkl⟩ := hsmall
        simp only at d0 d1 d2 d3 d4 d5 hx hy hnn hpl hkl hp hks
        obtain ⟨R, hRR⟩ : ∃ v, act z x y pb nn ks d = v := ⟨_, rfl⟩
        have hfine2 := hfine.act z x y pb nn ks hnn
        have hroom2 := act_room z x y pb nn ks d
        have hnamed2 := act_named HND.out z x y pb nn ks
        have hdo := do_any hH p S d z x y PA pb.length pc pb nn KA ks.length kc ks wr hI hfine (hp.below hbw) (Outs.old hp hSw hbw) (hks.below hbw) (Outs.old hks hSw hbw) hx hy (by omega)
        rw [hRR] at hfine2 hdo hroom2 hnamed2
        rw [HDR.out] at hroom2
        obtain ⟨pn, hpn⟩ : ∃ v, pb.length = v := ⟨_, rfl⟩
        obtain ⟨kn, hkn⟩ : ∃ v, ks.length = v := ⟨_, rfl⟩
        rw [hpn, hkn] at hdo
        rw [hpn] at d3
        rw [hkn] at d5
        obtain ⟨⟨bs1, r⟩, d9⟩ := R
        simp only at hdo hfine2 hroom2 hnamed2
        have HN2 := Lib.hid hnamed2
        have HDO := Lib.hid hdo
        have HF := Lib.hid (show FNew w wr S from ⟨hSw, hbw⟩)
        have HF2 := Lib.hid hfine2
        have HR2 := Lib.hid hroom2
        have b2 : decide ((k : Int) < (n : Int)) = true := decide_eq_true (by omega)
        have b3 : decide ((n : Int) ≤ (k : Int)) = false := decide_eq_false (by omega)
        have b4 : ¬ n ≤ k := by omega
        clear hma ha c0 c1 c2 c3 c4 c5 hp hks hI hSw hbw hcell hdo hfine2 hRR hfine hpn hkn hx hy hnn hpl hkl hlb hroom2 hnamed2 HDR HMI HND
        go_upto_region 8 with (go_at_call 12; (with_reducible refine HDO.out.mono ?_); rintro e u1 ⟨A1, n1, c1', rfl, ho1, S1, hI1, hg1, hk1, hout1⟩)
        have hF1 := hFr.go HF.out hk1 hg1
        obtain ⟨U, hU⟩ : ∃ v : Nat, (if d9.dn = true then (0 : Int) else ((Dsk.used d9.fs : Nat) : Int)) = (v : Int) := by
          split
          · exact ⟨0, rfl⟩
          · exact ⟨_, rfl⟩
        have hUr : (U : Int) ≤ (rm : Int) := by
          have h1 := HF2.out.1.2.1
          rw [HR2.out] at h1
          rw [← hU]
          split <;> omega
        have hus := hH.used p S1 d9 u1 hI1 HF2.out
        rw [hU] at hus
        have HUS := Lib.hid hus
        have HF1 := Lib.hid hF1
        have HU := Lib.hid hU
        have b5 : decide ((rm : Int) < (U : Int)) = false := decide_eq_false (by omega)
        have b6 : decide ((U : Int) < 0) = false := decide_eq_false (by omega)
        have b7 : ¬ rm < U := by omega
        clear ho1 hI1 hg1 hk1 hout1 hF1 hus hU hUr d0 d1 d2 d3 d4 d5 HDO HF
        go_wp2_with fail
        refine HUS.out.mono ?_
        rintro e u2 ⟨rfl, hs2⟩
        obtain ⟨S2, hI2, hF2⟩ := hs2.mine hFr HF1.out
        have hus := hH.used p S2 d9 u2 hI2 HF2.out
        rw [HU.out] at hus
        have HUS2 := Lib.hid hus
        have HFF2 := Lib.hid hF2
        clear hs2 hI2 hF2 hus HUS HF1
        go_wp2_with fail
        refine HUS2.out.mono ?_
        rintro e u3 ⟨rfl, hs3⟩
        obtain ⟨S3, hI3, hF3⟩ := hs3.mine hFr HFF2.out
        have HNM := Lib.hid (hH.names p S3 d9 u3 hI3 HF2.out)
        have HFF3 := Lib.hid hF3
        clear hs3 hI3 hF3 HUS2 HFF2 HU
        go_wp2_with fail
        refine HNM.out.mono ?_
        rintro e u4 ⟨A4, n4, c4, rfl, hr4, S4, hI4, hg4, hk4, ho4⟩
        have hn4 : n4 ≤ 16 := by
          have h1 := hr4.len
          rw [← h1]
          split
          · simp
          · rw [List.length_map]
            exact HF2.out.length
        have hF4 := hFr.go HFF3.out hk4 hg4
        have HM4 := Lib.hid (show Mine I (FNew w) u4 p d9 from ⟨S4, hI4, hF4⟩)
        have b8 : decide ((16 : Int) < (n4 : Int)) = false := decide_eq_false (by omega)
        have b9 : ¬ 16 < n4 := by omega
        clear hr4 hI4 hg4 hk4 ho4 hn4 hF4 HNM HFF3
        go_wp2_with fail
        exact ⟨⟨k + 1, d9, by omega, by simp, HF2.out, HR2.out, HN2.out, HM4.out⟩, by simp [intOf]; omega⟩
      · have hkn : k = n := by omega
        subst hkn
        clear hlt
        have b2 : decide ((k : Int) < (k : Int)) = false := decide_eq_false (by omega)
        obtain ⟨S, hI, hF⟩ := HMI.out
        have hnm := hH.names p S d wr hI hfine
        obtain ⟨NL, hNL, hNLd⟩ : ∃ NL : List Fl, (if d.dn = true then [] else d.fs.map fun f => Value.string f.nm) = (NL.map fun f => Value.string f.nm) ∧ ∀ f ∈ NL, d.dn = false ∧ f ∈ d.fs := by
          by_cases h : d.dn = true
          · exact ⟨[], by rw [if_pos h]; rfl, fun f hf => by cases hf⟩
          · exact ⟨d.fs, by rw [if_neg h], fun f hf => ⟨by simpa using h, hf⟩⟩
        rw [hNL] at hnm
        have HNM := Lib.hid hnm
        have HF := Lib.hid hF
        have HFI := Lib.hid hfine
        have HNLD := Lib.hid hNLd
        clear hI hF hnm hNL hNLd hfine HMI HDR
        go_wp2_with fail
        refine HNM.out.mono ?_
        rintro e u1 ⟨NA, n2, c2, rfl, hr1, S1, hI1, hg1, hk1, ho1⟩
        have hm1 : Mine I (fun v S => FNew w v S ∧ FRd NA n2 c2 (NL.map fun f => .string f.nm) v S) u1 p d := ⟨S1, hI1, hFr.go HF.out hk1 hg1, hr1, ho1⟩
        have hnl : NL.length = n2 := by have h := hr1.len; rwa [List.length_map] at h
        have hcap := And.intro hr1.le hr1.cap
        unfold maxLen at hcap
        have HM1 := Lib.hid hm1
        have HNL := Lib.hid hnl
        clear hr1 hI1 hg1 hk1 ho1 hm1 hnl HNM HF b2
        go_wp2_with fail
        go_loopw [8] (NameR I w p d NL NA n2 c2) (fun i _ => n2 - (intOf i).toNat)
        case atStart => exact ⟨0, Nat.zero_le _, rfl, HM1.out⟩
        case round =>
          obtain ⟨j, hj, rfl, hmine⟩ := hrel
          have HMI := Lib.hid hmine
          clear hmine HM1
          by_cases hlt : j < n2
          · have hFr2 : Frame (fun v S => FNew w v S ∧ FRd NA n2 c2 (NL.map fun f => .string f.nm) v S) := (frame_new w).and (frame_rd NA n2 c2 _)
            obtain ⟨S, hI, hF⟩ := HMI.out
            obtain ⟨f, hfk⟩ : ∃ f, NL[j]? = some f := ⟨_, List.getElem?_eq_getElem (by rw [HNL.out]; exact hlt)⟩
            obtain ⟨hdn, hfd⟩ := HNLD.out f (List.mem_of_getElem? hfk)
            obtain ⟨ad, uz, hNA, hadl, hz, hcz⟩ := hF.2.1.at_ hlt
            have huz : uz = .string f.nm := by
              rw [List.getElem?_map, hfk] at hz
              exact (Option.some.inj hz).symm
            subst huz
            have hsz : f.nm.size ≤ 9223372036854775807 := by have := HND.out f hfd; omega
            have hr0 := read_there hdn hfd
            have hrd := hH.read p S d f.nm wr hI HFI.out hsz
            have hrd2 := fun (u : World) (S5 : Nat → Prop) (hI5 : I u S5 p d) => hH.read p S5 d f.nm u hI5 HFI.out hsz
            obtain ⟨RR, hRR⟩ : ∃ v, Dsk.read f.nm d = v := ⟨_, rfl⟩
            rw [hRR] at hr0 hrd hrd2
            obtain ⟨B, r⟩ := RR
            simp only at hr0 hrd hrd2
            subst hr0
            obtain ⟨nm, hnm⟩ : ∃ v, f.nm = v := ⟨_, rfl⟩
            rw [hnm] at hcz hrd hrd2
            have HFK := Lib.hid hfk
            have HNME := Lib.hid hnm
            have HRD := Lib.hid hrd
            have HRD2 := Lib.hid hrd2
            have HF := Lib.hid hF
            have HADL := Lib.hid hadl
            have HNA := Lib.hid hNA
            rw [hNA]
            have b3 : decide ((j : Int) < (n2 : Int)) = true := decide_eq_true (by omega)
            have b4 : decide ((n2 : Int) ≤ (j : Int)) = false := decide_eq_false (by omega)
            have b5 : ¬ n2 ≤ j := by omega
            clear hI hF hfk hdn hfd hNA hadl hz hsz hrd hrd2 hRR hnm HMI
            go_upto_region 15 with (go_at_call 20; (with_reducible refine HRD.out.mono ?_); rintro e u2 ⟨A1, n1, c1, rfl, ho1, S2, hI2, hg2, hk2, hout2⟩)
            have hF2 := hFr2.go HF.out hk2 hg2
            have hB1 : B.length = n1 := by have h := ho1.1; rw [length_cs, Nat.mul_one] at h; exact h
            have hrd1 := Rd.own ho1
            have hcap1 := And.intro hrd1.le hrd1.cap
            unfold maxLen at hcap1
            have hstart : IncRel I w p d NL NA n2 c2 A1 n1 c1 B (.int .i64 0) u2 := by
              refine ⟨0, Nat.zero_le _, rfl, own_low (by rw [incs_zero]; exact ho1) HF.out.1.2.size, S2, hI2, hF2.1, hF2.2, hout2, fun a1 e1 a2 e2 e3 => ?_⟩
              subst e1
              have h1 := (ho1.lt a1.block rfl).1
              have h2 := HADL.out
              rw [HNA.out] at e2
              injection e2 with e2
              rw [e2] at h2
              omega
            have HSTA := Lib.hid hstart
            have HBL := Lib.hid hB1
            clear ho1 hI2 hg2 hk2 hout2 hF2 hB1 hrd1 hstart HRD hcz
            go_wp2_with fail
            go_loopw [11] (IncRel I w p d NL NA n2 c2 A1 n1 c1 B) (fun i _ => n1 - (intOf i).toNat)
            case atStart => exact HSTA.out
            case round =>
              obtain ⟨q, hq, rfl, hown, S3, hI3, hN3, hR3, hO3, hne3⟩ := hrel
              have HOW := Lib.hid hown
              have HI3 := Lib.hid hI3
              have HN3 := Lib.hid hN3
              have HR3 := Lib.hid hR3
              have HO3 := Lib.hid hO3
              have HNE3 := Lib.hid hne3
              clear hI3 hN3 hR3 hO3 hne3 HSTA
              by_cases hql : q < n1
              · rcases hown.2 with ⟨_, h0⟩ | ⟨gb, cap, cur, e, hbase, hgb, _⟩
                · omega
                injection e with e1 e2 e3
                subst e1
                obtain ⟨b, hb⟩ : ∃ b, B[q]? = some b := ⟨_, List.getElem?_eq_getElem (by rw [HBL.out]; exact hql)⟩
                have hlen : (cs (incs q B)).length = n1 := by rw [length_cs, incs_len q B (by rw [HBL.out]; omega), HBL.out]
                have hce : wr.cell? ⟨gb, q, none⟩ = some (.int .u8 (b : Int)) := (hown.cellAt q (by omega)).trans (by unfold cs; rw [List.getElem?_map, incs_at hb]; rfl)
                have hfz := hown.frozenAt q
                obtain ⟨s1, s2⟩ := hown.stored q (.int .u8 ((inc b : Nat) : Int))
                rw [cs_set, incs_set hb] at s1
                have hwrap := inc_wrap b
                obtain ⟨v, hv⟩ : ∃ v : Int, ((inc b : Nat) : Int) = v := ⟨_, rfl⟩
                rw [hv] at s1 s2 hwrap
                have hnext : IncRel I w p d NL NA n2 c2 (some ⟨gb, 0, none⟩) n1 c1 B (.int .i64 ((q + 1 : Nat) : Int)) (wr.setCell ⟨gb, q, none⟩ (.int .u8 v)) := by
                  refine ⟨q + 1, by omega, rfl, s1, S3, hH.keep HI3.out (Keeps.ofGrown (S := fun k => k = gb) s2 rfl) (fun b' hb' e' => HO3.out (by omega) _ rfl (by rw [show b' = gb from e'] at hb'; exact hb')),
                    ⟨HN3.out.1, HN3.out.2.grown s2 HN3.out.2.size (fun k' e' => by cases e'; exact hbase)⟩,
                    ⟨((frame_rd NA n2 c2 (NL.map fun f => .string f.nm)).go (S := fun k => k = gb) (S' := fun k => k = gb) ⟨HR3.out.1, fun _ ad' e' he => HNE3.out _ rfl ad' e' he⟩ (Keeps.ofGrown s2 rfl) (Grew.refl _ _)).1, HR3.out.2⟩, HO3.out, HNE3.out⟩
                have HNX := Lib.hid hnext
                have b6 : decide ((q : Int) < (n1 : Int)) = true := decide_eq_true (by omega)
                have b7 : decide ((n1 : Int) ≤ (q : Int)) = false := decide_eq_false (by omega)
                have b8 : ¬ n1 ≤ q := by omega
                obtain ⟨bi, hbi⟩ : ∃ bi : Int, (b : Int) = bi := ⟨_, rfl⟩
                rw [hbi] at hce hwrap
                clear hown s1 s2 hnext hb hlen hv hbi hgb hbase HOW HI3 HN3 HR3 HO3 HNE3 e3
                go_wp2_with fail
                exact ⟨HNX.out, by simp [intOf]; omega⟩
              · have hqn : q = n1 := by omega
                subst hqn
                have b6 : decide ((q : Int) < (q : Int)) = false := decide_eq_false (by omega)
                have hbm : incs q B = B.map inc := by
                  have h := incs_all B
                  rw [HBL.out] at h
                  exact h
                rw [hbm] at hown
                obtain ⟨ad2, uz, hNA2, hadl, hz, hcz⟩ := HR3.out.1.at_ hlt
                have huz : uz = .string nm := by
                  rw [List.getElem?_map, HFK.out] at hz
                  rw [← HNME.out]
                  exact (Option.some.inj hz).symm
                have had : ad2 = ad := by
                  have h := HNA.out
                  rw [hNA2] at h
                  injection h
                subst huz
                subst had
                have HRE := Lib.hid (HRD2.out wr S3 HI3.out)
                have HRB := Lib.hid (Rd.own hown)
                clear hown hbm hNA2 hadl hz hql
                go_upto_region 20 with (go_at_call 20; (with_reducible refine HRE.out.mono ?_); rintro e u5 ⟨A5, n5, c5, rfl, ho5, S5, hI5, hg5, hk5, hout5⟩)
                have hn5 : n5 = q := by
                  have h := ho5.1
                  rw [length_cs, Nat.mul_one, HBL.out] at h
                  exact h.symm
                subst hn5
                have hrdb := ((frame_rd A1 n5 c1 (cs (B.map inc))).go ⟨HRB.out, HO3.out⟩ hk5 hg5).1
                have hsame := same_any A1 A5 n5 n5 c1 c5 (B.map inc) B u5 hrdb (Rd.own ho5)
                have hm5 : ∀ q', Mine I (fun v S => FNew w v S ∧ FRd NA n2 c2 (NL.map fun f => .string f.nm) v S) (u5.drewN q') p d := fun q' =>
                  Mine.bel ⟨S5, hI5, hFr2.go ⟨HN3.out, HR3.out⟩ hk5 hg5⟩ hH hFr2 (below_drewN (Below.refl _ _) q')
                have HM0 := Lib.hid (show Mine I (fun v S => FNew w v S ∧ FRd NA n2 c2 (NL.map fun f => .string f.nm) v S) u5 p d from ⟨S5, hI5, hFr2.go ⟨HN3.out, HR3.out⟩ hk5 hg5⟩)
                have HM5 := Lib.hid hm5
                clear ho5 hI5 hg5 hk5 hout5 hrdb hm5 HRE HRB hcz b6
                by_cases hB : B = []
                · have hn0 : n5 = 0 := by rw [← HBL.out, hB]; rfl
                  have b9 : decide ((0 : Int) < (n5 : Int)) = false := decide_eq_false (by omega)
                  have b10 : ¬ 0 < n5 := by omega
                  clear hsame hn0 hB
                  go_wp2_with fail
                  exact ⟨⟨j + 1, by omega, by simp, by rw [← HNA.out]; exact HM0.out⟩, by simp [intOf]; omega⟩
                · rw [decide_eq_false (map_inc_ne hB)] at hsame
                  have hn0 : 0 < n5 := by
                    rw [← HBL.out]
                    exact List.length_pos_iff.2 hB
                  have b9 : decide ((0 : Int) < (n5 : Int)) = true := decide_eq_true (by omega)
                  have HSA := Lib.hid hsame
                  clear hsame hB
                  go_wp2_with fail
                  refine HSA.out.mono ?_
                  rintro e u6 ⟨rfl, q', rfl⟩
                  clear HSA
                  go_wp2_with fail
                  exact ⟨⟨j + 1, by omega, by simp, by rw [← HNA.out]; exact HM5.out q'⟩, by simp [intOf]; omega⟩
          · have hjn : j = n2 := by omega
            subst hjn
            have b3 : decide ((j : Int) < (j : Int)) = false := decide_eq_false (by omega)
            clear hlt
            go_wp2_with fail
            refine (HW.out _).mono ?_
            rintro e w3 ⟨rfl, hb3⟩
            obtain ⟨S', _, hF'⟩ := HMI.out
            have hb := hF'.1.2
            have HB3 := Lib.hid (hb.trans (hb3.mono hb.size))
            clear hb3 hb hF'
            go_wp2_with fail
            go_ret
            exact ⟨rfl, HB3.out⟩
theorem disk_room_int {I : Held} (hH : Has I) (rm : Int) (A : Option Addr) (n c : Nat) (l : List Ac) (w : World) (h0 : 0 ≤ rm) (hrm : rm < 256) (h : Acts w A n c l) (hl : ∀ a ∈ l, Right a) :
    Calls Try.prog 6 #[.int .u8 rm, .slice A n c] w (Tells true w) := by
  obtain ⟨k, rfl⟩ := Int.eq_ofNat_of_zero_le h0
  exact disk_room hH k A n c l w (by omega) h hl
end Go.Proofs.Ytcnjjabjdepjgaa.Dsk
