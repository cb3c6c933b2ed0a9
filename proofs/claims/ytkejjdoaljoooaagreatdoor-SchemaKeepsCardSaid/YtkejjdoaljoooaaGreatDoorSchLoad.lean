/-
  Texts of earlier layers, as one.
-/
import Derived.Test.YtkejjdoaljoooaaGreatDoorSchA
/- bytes.Equal; the program's load: a store's version, and its other records as bytes; Version. -/
namespace Go.Proofs.YtkejjdoaljoooaaGreatDoor.Sc
open Lib (hid)
open Go.RowKit Mem Dsk Lg
set_option maxHeartbeats 1000000 in
theorem equal_any (A : Option Addr) (n c : Nat) (a : List Nat) (B : Option Addr) (m d : Nat) (b : List Nat) (w : World) (ha : Rd w A n c (cs a)) (hb : Rd w B m d (cs b)) (la : ∀ x ∈ a, x < 256) (lb : ∀ x ∈ b, x < 256) :
 Calls Tryz.prog 51 #[.slice A n c, .slice B m d] w (Tells (decide (a = b)) w) := by
 have h1 : (convert 71 9 (.slice A n c)).run Tryz.prog w = .ok (.string (Mem.txt a)) w := Mem.run_text 71 9 5 Tryz.underlying71 Tryz.underlying5 Tryz.underlying9 ha;have h2 : (convert 71 9 (.slice B m d)).run Tryz.prog w = .ok (.string (Mem.txt b)) w := Mem.run_text 71 9 5 Tryz.underlying71 Tryz.underlying5 Tryz.underlying9 hb
 have h3 : ((Mem.txt a).toList == (Mem.txt b).toList) = decide (a = b) := by
  rw [eq_tell, Mem.bts_txt a la, Mem.bts_txt b lb]
 obtain ⟨q, hq⟩ : ∃ q, decide (a = b) = q := ⟨_, rfl⟩
 rw [hq] at h3 ⊢;clear ha hb la lb hq;go_enter Tryz.func51, Tryz.ntmps51
 go_wp2_with fail
 go_ret;exact ⟨rfl, Below.refl _ _⟩
theorem cell_spot {w : World} {ad : Addr} {A : Option Addr} {n c : Nat} (h : w.cell? (ad.add 0) = some (.slice A n c)) : ∃ g o, ad = ⟨g, o, none⟩ := by
 obtain ⟨g, o, s⟩ := ad;cases s with
 | none => exact ⟨g, o, rfl⟩
 | some s =>
   exfalso;have h2 : w.cell? (⟨g, o, some s⟩ : Addr) = some (.slice A n c) := h;unfold World.cell? at h2;simp only at h2;split at h2
   · simp at h2
   · cases h2
theorem cutA_at {A : Option Addr} {c k : Nat} {ad : Addr} (h : cutA A c k = some ad) : ∃ a, A = some a ∧ a.block = ad.block := by
 unfold cutA at h;split at h
 · exact ⟨ad, h, rfl⟩
 · cases A with
   | none => cases h
   | some a =>
     injection h with h;exact ⟨a, rfl, by rw [← h, add_block]⟩
theorem fmat_cut {V : Option Addr} {n c : Nat} {p : Cr.Part} {ps : List Cr.Part} {w : World} {S : Nat → Prop} (h : FMat V (n + 1) c (p :: ps) w S) : FMat (cutA V c 1) n (c - 1) ps w S := by
 refine ⟨⟨?_, fun h0 ad e hs => ?_⟩, fun q hq => h.2 q (by simp [hq])⟩
 · have := h.1.1.cut (k := 1) (by omega)
   exact this
 · obtain ⟨a, ha, hb⟩ := cutA_at e
   exact h.1.2 (by omega) a ha (by rw [hb]; exact hs)
def LdRel (h : List Nat) (w3 : World) (i : Value) (wr : World) : Prop :=
 ∃ k : Nat, k ≤ 2 ∧ i = .int .i64 (k : Int) ∧ (1 ≤ k → h ≠ hdr 1) ∧ (2 ≤ k → h ≠ hdr 2) ∧ Below w3.heap.size w3 wr
theorem fmat_nil (w : World) (S : Nat → Prop) : FMat none 0 0 [] w S := ⟨⟨Rd.nil_ _, fun h => absurd h (by omega)⟩, fun _ h => by cases h⟩
theorem load_end {I : Held} (hH : Has2 I) {p : Nat} {S S1 : Nat → Prop} {l : List (List Nat)} {d : Dk} {w w1 w2 : World} {V : Option Addr} {n c : Nat} {ps : List Cr.Part} (hI : I w1 S1 p d) (hg : Dsk.Grew S S1 w) (hk : Keeps S w w1) (hb : Below w1.heap.size w1 w2) (hm : FMat V n c ps w2 S1) (hl : ps.map (·.bs) = (loadOf l).2.1) :
 LoadIs I p S l d w (.returned (.tuple #[.int .i64 ((loadOf l).1 : Int), .slice V n c, .int .i64 ((loadOf l).2.2 : Int)])) w2 :=
 ⟨V, n, c, ps, rfl, hl, S1, have_bel hH hI hb, hg, hk.trans (Keeps.ofBelow (S := S1) hb) hg, hm⟩
set_option maxRecDepth 20000 in
set_option maxHeartbeats 4000000 in
theorem load_any {I : Held} (hH : Has2 I) : HLoad I := by
 intro p S d d2 c l r w hI ht hrb;obtain ⟨hrd, hc, hcl, hR, _, _, _, _, hf, _⟩ := hrb;have hre := hH.read p S d nlog w hI hf (by decide);have hfg : ((Dsk.read nlog d).2 = 0 ∨ (Dsk.read nlog d).2 = 8) ∧ (Dsk.read nlog d).1 = c := by rcases hrd with h | h <;> rw [h] <;> simp
 obtain ⟨x, hx⟩ : ∃ x, (Dsk.read nlog d).2 = x := ⟨_, rfl⟩
 rw [hfg.2, hx] at hre;rw [hx] at hfg
 have hx1 : (((x : Int) != 0) = false ∧ ((x : Int) == 0) = true) ∨ (((x : Int) != 0) = true ∧ ((x : Int) == 0) = false ∧ ((x : Int) != 8) = false ∧ ((x : Int) == 8) = true) := by
  rcases hfg.1 with h | h <;> subst h <;> simp
 have HRE := hid hre;have HR := hid (And.intro hR (And.intro hc hcl));have HT := hid ht;have HH := hid hH;have HX := hid hx1;clear hre hR hcl hc ht hf hrd hfg hI hx hx1;unfold Dsk.ptr at *;unfold nlog at HRE;go_enter Tryz.func30, Tryz.ntmps30
 go_wp2_with fail
 refine HRE.out.mono ?_;rintro e w1 ⟨A, n, ac, rfl, ho, S1, hI1, hg1, hk1, ho1⟩;have hn : n = c.length := by have h := ho.1; rw [length_cs, Nat.mul_one] at h; exact h.symm
 subst hn;have HO := hid ho;have HI1 := hid hI1;have HG1 := hid (And.intro hg1 hk1);clear ho hI1 hg1 hk1 ho1 HRE;have hscan := scan_any A c.length ac c l r w1 (frame_tab.go HT.out HG1.out.2 HG1.out.1).1 (Rd.own HO.out) HR.out.2.1 HR.out.2.2 HR.out.1;have HSC := hid hscan;clear hscan;have hfirst : Tryz.prog.follows .mixedOrders = true := by kernel_rfl
 clear hfirst;rcases HX.out with hxx | hxx
 all_goals
  try obtain ⟨hx0, hx1, hx2, hx3⟩ := hxx
  try obtain ⟨hx0, hx1⟩ := hxx
  go_wp2_with fail
  refine HSC.out.mono ?_;rintro e w3 ⟨V, k, ps, rfl, hm, hb3⟩;have hfm : FMat V l.length k ps w3 S1 := hm.out fun k hk => hH.low HI1.out k hk;have hby := hm.bytes;have HB3 := hid hb3;have HBY := hid hby;have HFM := hid hfm;clear hm hb3 hby hfm;have hpl : ps.length = l.length := by rw [← HBY.out, List.length_map]
  cases ps with
  | nil =>
    have hl : l = [] := (by rw [← HBY.out]; rfl);have HL := hid hl;have hl0 : l.length = 0 := (by rw [hl]; rfl);rw [hl0];clear hl hpl;go_wp2_with fail
    go_ret3
    have := load_end HH.out (l := l) (S := S) (w := w) HI1.out HG1.out.1 HG1.out.2 HB3.out (fmat_nil w3 S1) (by rw [HL.out]; rfl);rw [HL.out] at this ⊢;exact this
  | cons q ps =>
    obtain ⟨t, hlt⟩ : ∃ t, l = q.bs :: t := ⟨ps.map (·.bs), by rw [← HBY.out]; rfl⟩
    have htb : ps.map (·.bs) = t := by
     have := HBY.out;rw [hlt] at this;injection this
    have hll : l.length = ps.length + 1 := (by rw [← hpl]; rfl);rw [hll] at HFM ⊢;obtain ⟨ad, u, hV, had, hu, hcell⟩ := HFM.out.1.1.at_ (k := 0) (by omega);injection hu with hu;subst hu;unfold Cr.pv at hcell;obtain ⟨g, o, rfl⟩ := cell_spot hcell;subst hV;rw [Addr.add_lit, Nat.add_zero] at hcell;have hq := HFM.out.2 q (by simp);have HLT := hid (And.intro hlt htb);have HC := hid hcell;have HGL := hid had;have HQ := hid (And.intro hq.1.1 hq.2);have hk1 := HFM.out.1.1.le;have hk2 := HFM.out.1.1.cap;clear hlt htb hll hcell had hq hpl;have hz : ¬ ((ps.length : Int) + 1 = 0) := (by omega);go_wp2_with fail
    go_loopw [33] (LdRel q.bs w3) (fun i _ => 2 - (intOf i).toNat)
    case atStart => exact ⟨0, by omega, rfl, fun h => absurd h (by omega), fun h => absurd h (by omega), Below.refl _ _⟩
    case round =>
     obtain ⟨j, hj, rfl, hj1, hj2, hbel⟩ := hrel;have HJ := hid (And.intro hj1 hj2);have HB := hid hbel;clear hj1 hj2 hbel;rcases (show j = 0 ∨ j = 1 ∨ j = 2 by omega) with rfl | rfl | rfl
     · have hhd := fun W => header_any 1 (by omega) W
       have HHD := hid hhd;clear hhd;have hcell : wr.cell? ⟨g, o, none⟩ = some (.slice q.A q.n q.c) := (HB.out.cell (p := ⟨g, o, none⟩) HGL.out).trans HC.out;have hix : ∀ w, (Instr.index 115 (.agg #[.int .i64 1, .int .i64 2]) (.int .i64 0)).run Tryz.prog w = .ok (.int .i64 1) w := fun w => (by kernel_rfl);go_upto_region 12 with fail
       replace HB := hid (Below.drew HB.out);refine wp_region_held_drew (S := (fun w' => w'.cell? ⟨g, o, none⟩ = some (.slice q.A q.n q.c))) (by kernel_rfl) hcell (fun hHeld => ?_);refine hs_take 0 36 (.slice (some ⟨g, o, none⟩) (ps.length + 1) k) rfl rfl (by kernel_rfl) (fun _ _ _ h => h) (fun w hS => by go_simp) hHeld ?_;try simp only [n0, n1, n2]
       refine hs_take 1 37 (.pointer (some ⟨g, o, none⟩)) rfl rfl (by kernel_rfl) (fun _ _ _ h => h) (fun w hS => by go_simp) hHeld ?_;try simp only [n0, n1, n2]
       refine hs_take 2 38 (.slice q.A q.n q.c) rfl rfl (by kernel_rfl) (fun _ _ _ h => h) (fun w hSw => by (have hS : w.cell? _ = _ := hSw); go_simp) hHeld ?_;try simp only [n0, n1, n2]
       refine hs_take 3 39 (.int .i64 1) rfl rfl (by kernel_rfl) (fun _ _ _ h => h) (fun w hS => by go_simp) hHeld ?_;try simp only [n0, n1, n2]
       refine wpAnyH_ready (rs := [4]) (by kernel_rfl) (by simp) ?_;refine AllReadyH.cons rfl (fun K hK => ?_) AllReadyH.nil;go_simp;refine (HHD.out _).mono ?_;rintro e w4 ⟨HA, hn, hc, rfl, rfl, _, hhr, hb4⟩;replace HB := hid (HB.out.trans (hb4.mono HB.out.size));have HHR := hid hhr;clear hb4 hhr;refine hK.out _ _ ((HB.out.cell (p := ⟨g, o, none⟩) HGL.out).trans HC.out) (fun hHeld => ?_);clear hK K;refine wpAnyH_ready (rs := [5]) (by kernel_rfl) (by simp) ?_;refine AllReadyH.cons rfl (fun K hK => ?_) AllReadyH.nil;go_simp;refine (equal_any q.A q.n q.c q.bs HA _ hc (hdr 1) w4 (HQ.out.1.below HB.out) HHR.out HQ.out.2 (hdr_lt (by omega))).mono ?_;rintro e w5 ⟨rfl, hb5⟩;replace HB := hid (HB.out.trans (hb5.mono HB.out.size));clear hb5;refine hK.out _ _ ((HB.out.cell (p := ⟨g, o, none⟩) HGL.out).trans HC.out) (fun hHeld => ?_);clear hK K hcell;refine wpAnyH_done (by kernel_rfl) ?_ _;by_cases he : q.bs = hdr 1
       · have b1 : decide (q.bs = hdr 1) = true := decide_eq_true he
         rw [b1];have hlo : loadOf l = (1, t, 0) := (by rw [HLT.out.1, load_cons, if_pos he]);have HLO := hid hlo;have hsl : ∀ w, (Instr.slice 74 (.slice (some ⟨g, o, none⟩) (ps.length + 1) k) (some (.int .i64 ((1 : Nat) : Int))) none none).run Tryz.prog w = .ok (.slice (cutA (some ⟨g, o, none⟩) k 1) (ps.length + 1 - 1) (k - 1)) w := fun w => run_cut 74 Tryz.underlying74 (fun w => by kernel_rfl) (some ⟨g, o, none⟩) (ps.length + 1) k 1 (by omega) w;have hsl1 : ∀ w, (Instr.slice 74 (.slice (some ⟨g, o, none⟩) (ps.length + 1) k) (some (.int .i64 1)) none none).run Tryz.prog w = .ok (.slice (cutA (some ⟨g, o, none⟩) k 1) ps.length (k - 1)) w := hsl;obtain ⟨CV, hCV⟩ : ∃ CV, cutA (some ⟨g, o, none⟩) k 1 = CV := ⟨_, rfl⟩
         obtain ⟨ck, hck⟩ : ∃ ck, k - 1 = ck := ⟨_, rfl⟩
         have hfc := fmat_cut HFM.out;rw [hCV, hck] at hsl1 hfc;have HFC := hid hfc;clear hlo hsl hfc hCV hck b1 he;go_upto_region 13 with fail
         refine wp_region_held_drew (S := (fun _ : World => True)) (by kernel_rfl) trivial (fun hHeld => ?_);refine hs_take 0 42 (.int .i64 1) rfl rfl (by kernel_rfl) (fun _ _ _ h => h) (fun w hS => by go_simp) hHeld ?_;try simp only [n0, n1, n2]
         refine hs_take 1 43 (.slice (some ⟨g, o, none⟩) (ps.length + 1) k) rfl rfl (by kernel_rfl) (fun _ _ _ h => h) (fun w hS => by go_simp) hHeld ?_;try simp only [n0, n1, n2]
         refine hs_take 2 44 (.slice CV ps.length ck) rfl rfl (by kernel_rfl) (fun _ _ _ h => h) (fun w hSw => by (have hx := hsl1 w); go_simp) hHeld ?_;try simp only [n0, n1, n2]
         refine hs_take 3 2 (.int .i64 1) rfl rfl (by kernel_rfl) (fun _ _ _ h => h) (fun w hS => by go_simp) hHeld ?_;try simp only [n0, n1, n2]
         refine hs_take 4 3 (.slice CV ps.length ck) rfl rfl (by kernel_rfl) (fun _ _ _ h => h) (fun w hS => by go_simp) hHeld ?_;try simp only [n0, n1, n2]
         refine hs_take 5 4 (.int .i64 0) rfl rfl (by kernel_rfl) (fun _ _ _ h => h) (fun w hS => by go_simp) hHeld ?_;try simp only [n0, n1, n2]
         refine wpAnyH_done (by kernel_rfl) ?_ _;go_wp2_with fail
         go_ret3
         have hbb := HB.out.drew;have hfr : FMat CV ps.length ck ps w5.drew S1 := (frame_mat _ _ _ _).go HFC.out (Keeps.ofBelow (S := S1) hbb) (Dsk.Grew.refl S1 w3);have := load_end HH.out (l := l) (S := S) (w := w) HI1.out HG1.out.1 HG1.out.2 (HB3.out.trans (hbb.mono HB3.out.size)) hfr (by rw [HLO.out]; exact HLT.out.2);rw [HLO.out] at this;exact this
       · have b1 : decide (q.bs = hdr 1) = false := decide_eq_false he
         rw [b1];have HE := hid he;clear he b1;go_wp2_with fail
         go_roundw
         case rel => exact ⟨_, _, _, _, _, _, _, _, _, _, _, _, _, _, _, _, _, ⟨1, by omega, rfl, fun _ => HE.out, fun h => absurd h (by omega), HB.out⟩, rfl⟩
         case measure => simp [intOf]
     · have hhd := fun W => header_any 2 (by omega) W
       have HHD := hid hhd;clear hhd;have hcell : wr.cell? ⟨g, o, none⟩ = some (.slice q.A q.n q.c) := (HB.out.cell (p := ⟨g, o, none⟩) HGL.out).trans HC.out;have hix : ∀ w, (Instr.index 115 (.agg #[.int .i64 1, .int .i64 2]) (.int .i64 1)).run Tryz.prog w = .ok (.int .i64 2) w := fun w => (by kernel_rfl);go_upto_region 12 with fail
       replace HB := hid (Below.drew HB.out);refine wp_region_held_drew (S := (fun w' => w'.cell? ⟨g, o, none⟩ = some (.slice q.A q.n q.c))) (by kernel_rfl) hcell (fun hHeld => ?_);refine hs_take 0 36 (.slice (some ⟨g, o, none⟩) (ps.length + 1) k) rfl rfl (by kernel_rfl) (fun _ _ _ h => h) (fun w hS => by go_simp) hHeld ?_;try simp only [n0, n1, n2]
       refine hs_take 1 37 (.pointer (some ⟨g, o, none⟩)) rfl rfl (by kernel_rfl) (fun _ _ _ h => h) (fun w hS => by go_simp) hHeld ?_;try simp only [n0, n1, n2]
       refine hs_take 2 38 (.slice q.A q.n q.c) rfl rfl (by kernel_rfl) (fun _ _ _ h => h) (fun w hSw => by (have hS : w.cell? _ = _ := hSw); go_simp) hHeld ?_;try simp only [n0, n1, n2]
       refine hs_take 3 39 (.int .i64 2) rfl rfl (by kernel_rfl) (fun _ _ _ h => h) (fun w hS => by go_simp) hHeld ?_;try simp only [n0, n1, n2]
       refine wpAnyH_ready (rs := [4]) (by kernel_rfl) (by simp) ?_;refine AllReadyH.cons rfl (fun K hK => ?_) AllReadyH.nil;go_simp;refine (HHD.out _).mono ?_;rintro e w4 ⟨HA, hn, hc, rfl, rfl, _, hhr, hb4⟩;replace HB := hid (HB.out.trans (hb4.mono HB.out.size));have HHR := hid hhr;clear hb4 hhr;refine hK.out _ _ ((HB.out.cell (p := ⟨g, o, none⟩) HGL.out).trans HC.out) (fun hHeld => ?_);clear hK K;refine wpAnyH_ready (rs := [5]) (by kernel_rfl) (by simp) ?_;refine AllReadyH.cons rfl (fun K hK => ?_) AllReadyH.nil;go_simp;refine (equal_any q.A q.n q.c q.bs HA _ hc (hdr 2) w4 (HQ.out.1.below HB.out) HHR.out HQ.out.2 (hdr_lt (by omega))).mono ?_;rintro e w5 ⟨rfl, hb5⟩;replace HB := hid (HB.out.trans (hb5.mono HB.out.size));clear hb5;refine hK.out _ _ ((HB.out.cell (p := ⟨g, o, none⟩) HGL.out).trans HC.out) (fun hHeld => ?_);clear hK K hcell;refine wpAnyH_done (by kernel_rfl) ?_ _;by_cases he : q.bs = hdr 2
       · have b1 : decide (q.bs = hdr 2) = true := decide_eq_true he
         rw [b1];have hlo : loadOf l = (2, t, 0) := (by rw [HLT.out.1, load_cons, if_neg (HJ.out.1 (by omega)), if_pos he]);have HLO := hid hlo;have hsl : ∀ w, (Instr.slice 74 (.slice (some ⟨g, o, none⟩) (ps.length + 1) k) (some (.int .i64 ((1 : Nat) : Int))) none none).run Tryz.prog w = .ok (.slice (cutA (some ⟨g, o, none⟩) k 1) (ps.length + 1 - 1) (k - 1)) w := fun w => run_cut 74 Tryz.underlying74 (fun w => by kernel_rfl) (some ⟨g, o, none⟩) (ps.length + 1) k 1 (by omega) w;have hsl1 : ∀ w, (Instr.slice 74 (.slice (some ⟨g, o, none⟩) (ps.length + 1) k) (some (.int .i64 1)) none none).run Tryz.prog w = .ok (.slice (cutA (some ⟨g, o, none⟩) k 1) ps.length (k - 1)) w := hsl;obtain ⟨CV, hCV⟩ : ∃ CV, cutA (some ⟨g, o, none⟩) k 1 = CV := ⟨_, rfl⟩
         obtain ⟨ck, hck⟩ : ∃ ck, k - 1 = ck := ⟨_, rfl⟩
         have hfc := fmat_cut HFM.out;rw [hCV, hck] at hsl1 hfc;have HFC := hid hfc;clear hlo hsl hfc hCV hck b1 he;go_upto_region 13 with fail
         refine wp_region_held_drew (S := (fun _ : World => True)) (by kernel_rfl) trivial (fun hHeld => ?_);refine hs_take 0 42 (.int .i64 2) rfl rfl (by kernel_rfl) (fun _ _ _ h => h) (fun w hS => by go_simp) hHeld ?_;try simp only [n0, n1, n2]
         refine hs_take 1 43 (.slice (some ⟨g, o, none⟩) (ps.length + 1) k) rfl rfl (by kernel_rfl) (fun _ _ _ h => h) (fun w hS => by go_simp) hHeld ?_;try simp only [n0, n1, n2]
         refine hs_take 2 44 (.slice CV ps.length ck) rfl rfl (by kernel_rfl) (fun _ _ _ h => h) (fun w hSw => by (have hx := hsl1 w); go_simp) hHeld ?_;try simp only [n0, n1, n2]
         refine hs_take 3 2 (.int .i64 2) rfl rfl (by kernel_rfl) (fun _ _ _ h => h) (fun w hS => by go_simp) hHeld ?_;try simp only [n0, n1, n2]
         refine hs_take 4 3 (.slice CV ps.length ck) rfl rfl (by kernel_rfl) (fun _ _ _ h => h) (fun w hS => by go_simp) hHeld ?_;try simp only [n0, n1, n2]
         refine hs_take 5 4 (.int .i64 0) rfl rfl (by kernel_rfl) (fun _ _ _ h => h) (fun w hS => by go_simp) hHeld ?_;try simp only [n0, n1, n2]
         refine wpAnyH_done (by kernel_rfl) ?_ _;go_wp2_with fail
         go_ret3
         have hbb := HB.out.drew;have hfr : FMat CV ps.length ck ps w5.drew S1 := (frame_mat _ _ _ _).go HFC.out (Keeps.ofBelow (S := S1) hbb) (Dsk.Grew.refl S1 w3);have := load_end HH.out (l := l) (S := S) (w := w) HI1.out HG1.out.1 HG1.out.2 (HB3.out.trans (hbb.mono HB3.out.size)) hfr (by rw [HLO.out]; exact HLT.out.2);rw [HLO.out] at this;exact this
       · have b1 : decide (q.bs = hdr 2) = false := decide_eq_false he
         rw [b1];have HE := hid he;clear he b1;go_wp2_with fail
         go_roundw
         case rel => exact ⟨_, _, _, _, _, _, _, _, _, _, _, _, _, _, _, _, _, ⟨2, by omega, rfl, fun _ => HJ.out.1 (by omega), fun _ => HE.out, HB.out⟩, rfl⟩
         case measure => simp [intOf]
     · have h1 := HJ.out.1 (by omega)
       have h2 := HJ.out.2 (by omega);have hlo : loadOf l = (0, [], 19) := (by rw [HLT.out.1, load_cons, if_neg h1, if_neg h2]);have HLO := hid hlo;clear hlo h1 h2;go_wp2_with fail
       go_ret3
       have := load_end HH.out (l := l) (S := S) (w := w) HI1.out HG1.out.1 HG1.out.2 (HB3.out.trans (HB.out.mono HB3.out.size)) (fmat_nil wr S1) (by rw [HLO.out]; rfl);rw [HLO.out] at this;exact this
end Go.Proofs.YtkejjdoaljoooaaGreatDoor.Sc
