/-
  Texts of earlier layers, as one.
-/
import Derived.Test.YtpalmnjapiijaaaCompWaits
import Derived.Deep.RegionLaw
/- The program's ask: a component is free, or waits. -/
namespace Go.Proofs.Ytpalmnjapiijaaa.Gr
open Go.RowKit Mem Dsk

def AkPost (w0 : World) (A : Option Addr) (n c p bo g cg : Nat) (e : Graph) (f : PF) (K : Nat) (BL : Nat → List Nat) (wh : Nat → Nat) (k : Nat) (w : World) (col : Nat → Nat) (x : Ending) (w' : World) : Prop := x = .returned (.tuple #[]) ∧ ∃ (col' : Nat → Nat) (f' : PF) (BL' : Nat → List Nat) (Af' : Option Addr) (cf' : Nat) (F' : List Nat) (wh' : Nat → Nat),
  RM w0 A n c p bo g cg w' col' (rk e) f' K (nd e e.length) BL' Af' cf' F' ∧ Hq.Trn KA w col w' col' ∧ OS e K f'.a f'.q f'.pl BL' F' wh' ∧ Hq.Hp F'.length (Hq.G F') ∧ f'.pl = f.pl ∧ f'.no = f.no ∧ (∀ j, f.pl j = true → f'.be j = f.be j ∧ BL' j = BL j) ∧ ∀ x, wh' x = K + 1 ↔ wh x = K + 1 ∧ x ≠ k
theorem trn_kh {w w' : World} {col col' : Nat → Nat} (h : Hq.Trn Hq.KH w col w' col') : Hq.Trn KA w col w' col' := h.mono fun q hq => by unfold Hq.KH at hq; unfold KA; omega
set_option maxRecDepth 20000 in
set_option maxHeartbeats 16000000 in
theorem ask_any {w0 w : World} {A : Option Addr} {n c p bo g cg k : Nat} {e : Graph} {f : PF} {K : Nat} {BL : Nat → List Nat} {Af : Option Addr} {cf : Nat} {F : List Nat} {wh : Nat → Nat} {col : Nat → Nat} (hM : Mat w0 A n c e) (hz : ∀ l ∈ e, l.length ≤ 17592186044416) (h : RM w0 A n c p bo g cg w col (rk e) f K (nd e e.length) BL Af cf F) (hO : OS e K f.a f.q f.pl BL F wh) (hh : Hq.Hp F.length (Hq.G F)) (hk : k < K) (hw : wh k = K + 1) (hpk : f.pl k = false) (hn : n ≤ 900000) :
    Calls Try.prog 22 #[ptr p, .int .i64 (k : Int)] w (AkPost w0 A n c p bo g cg e f K BL wh k w col) := by
  have hln := hM.len
  have HW := Lib.hid (waits_any hM hz h hO.hK hk (hO.pst k hk) (by omega))
  have hKn : K ≤ 900000 := by have := kc_le (e := e) e.length; have := hO.hK; omega
  have HO := Lib.hid (And.intro hO (And.intro hh (And.intro hw (And.intro hpk hKn))))
  clear hM hz h hO hh hw hpk hn hln hKn
  unfold ptr at HW ⊢
  go_enter Try.func22, Try.ntmps22
  go_wp2_with fail
  (with_reducible refine HW.out.mono ?_)
  rintro r u1 ⟨d, b, t, q, rfl, h1, ht1, hpa, hb1, hb2⟩
  have hO1 : OS e K (fW f k t q).a (fW f k t q).q f.pl BL F wh := HO.out.1.go hpa
  clear HW hpa
  cases b with
  | true =>
    obtain ⟨hdK, hdk, hpd, hdep⟩ := hb1 rfl
    have hO2 := hO1.setWait hk HO.out.2.2.1 HO.out.2.2.2.1 hdK hdk hpd hdep
    have hBlen := hO1.blen hdK hpd
    obtain ⟨⟨B0, m, cB⟩, hbe⟩ : ∃ y, f.be d = y := ⟨_, rfl⟩
    have hbe' : (fW f k t q).be d = (B0, m, cB) := hbe
    have hrow := h1.beh d hdK
    rw [hbe'] at hrow
    have hml := hrow.len
    rw [toZ_length] at hml
    have hml : (BL d).length = m := hml
    obtain ⟨c0, c1, c2, c3⟩ := h1.cells
    obtain ⟨d0, d1, d2, d3, d4⟩ := h1.part hdK
    rw [hbe'] at d3
    have hb : Below u1.heap.size u1 (u1.drew.alloc (.cells #[.int .i64 (k : Int)] 3)) := bel_alloc (Below.drew (Below.refl _ _)) _
    obtain ⟨V, c', u3, col3, hrun, ht3, hr3⟩ := push_at (t := 27) (w1 := (u1.drew.alloc (.cells #[.int .i64 (k : Int)] 3))) Try.underlying27 hrow h1.lo h1.bel.size (by show m ≤ 1000000; have := HO.out.2.2.2.2; omega) 27 hb (Rw.lit (L := LN) u1.drew (k : Int) 3)
    obtain ⟨hf1, hf2⟩ := h1.setBe hdK (V := V) (m := m + 1) (c' := c') (B' := BL d ++ [k]) ht3 hr3
    have hcol3 : u3.heap[g]? = u1.heap[g]? := ht3.blk g h1.prt.lt (by rw [h1.gc]; omega)
    have d3u : u3.cell? ⟨g, d * 5 + 3, none⟩ = some (.slice B0 m cB) := (World.cell?_of_block (a := ⟨g, d * 5 + 3, none⟩) hcol3).trans d3
    have f3u : u3.frozen? ⟨g, d * 5 + 3, none⟩ = false := (World.frozen?_of_block (a := ⟨g, d * 5 + 3, none⟩) hcol3).trans (h1.soft _)
    have hrun' : (Builtin.append_ #[27, 27] 27 #[.slice B0 m cB, .slice (some ⟨u1.heap.size, 0, none⟩) 1 1]).run Try.prog (u1.drew.alloc (.cells #[.int .i64 (k : Int)] 3)) = .ok (.slice V (m + 1) c') u3 := hrun
    have c2u : u3.cell? ⟨p, 2, none⟩ = some (.slice (some ⟨g, 0, none⟩) K cg) := by rw [(ht3.hblk h1.hn.box h1.hn.pc (by omega)).cell]; rfl
    have hgl : g < u1.heap.size := h1.prt.lt
    have hpl : p < u1.heap.size := h1.hn.box.lt
    have HRUN := Lib.hid hrun'
    have HF := Lib.hid (show AkPost w0 A n c p bo g cg e f K BL wh k w col (.returned (.tuple #[])) (u3.setCell ⟨g, d * 5 + 3, none⟩ (.slice V (m + 1) c')) from by
      refine ⟨rfl, col3, _, _, Af, cf, F, _, hf1, ht1.trans hf2 ka0, hO2, HO.out.2.1, rfl, rfl, fun j hj => ?_, fun x => ?_⟩
      · have hjd : j ≠ d := fun e => by rw [e, hpd] at hj; cases hj
        exact ⟨upd_other hjd, upd_other hjd⟩
      · by_cases e1 : x = k
        · rw [e1, upd_same]
          exact ⟨fun h => by omega, fun h => absurd rfl h.2⟩
        · rw [upd_other e1]
          exact ⟨fun h => ⟨h, e1⟩, fun h => h.1⟩)
    clear hb1 hb2 hO1 hO2 hBlen hbe hbe' hrow hml h1 ht1 c0 c1 c3 d0 d1 d2 d4 hb hrun hrun' ht3 hr3 hf1 hf2 hcol3 hpd hdep hdk
    go_upto_region 2 with fail
    go_region_law (refine step_append_row rfl (.tmp 25) (.tmp 27) rfl HRUN.out ?_)
    all_goals go_wp2_with fail
    all_goals first | go_end0 | refine bodyPost_ret (results_none rfl _ _ _) rfl ?_
    all_goals exact HF.out
  | false =>
    have hdn := hb2 rfl
    have hFl := hO1.flen
    have HPU := Lib.hid (Hq.hpush_any k u1 h1.hn HO.out.2.1 (by have := HO.out.2.2.2.2; omega))
    have HX := Lib.hid (And.intro h1 (And.intro ht1 (And.intro hO1 hdn)))
    clear h1 ht1 hO1 hdn hb1 hb2 hFl
    unfold Hq.ifc Hq.ptr3 at HPU
    go_wp2_with fail
    (with_reducible refine HPU.out.mono ?_)
    rintro r u2 ⟨rfl, V, c', col', h', hn', hp', hperm, htr⟩
    have HF := Lib.hid (show AkPost w0 A n c p bo g cg e f K BL wh k w col (.returned (.tuple #[])) u2 from by
      obtain ⟨h1, ht1, hO1, hdn⟩ := HX.out
      refine ⟨rfl, col', _, BL, V, c', h', _, h1.heap htr hn', ht1.trans (trn_kh htr) ka0, hO1.setFree hk HO.out.2.2.1 HO.out.2.2.2.1 hdn hperm, hp', rfl, rfl, fun _ _ => ⟨rfl, rfl⟩, fun x => ?_⟩
      by_cases e1 : x = k
      · rw [e1, upd_same]
        exact ⟨fun h => by omega, fun h => absurd rfl h.2⟩
      · rw [upd_other e1]
        exact ⟨fun h => ⟨h, e1⟩, fun h => h.1⟩)
    clear hn' hp' hperm htr HPU
    go_wp2_with fail
    first | go_end0 | refine bodyPost_ret (results_none rfl _ _ _) rfl ?_
    exact HF.out
end Go.Proofs.Ytpalmnjapiijaaa.Gr
