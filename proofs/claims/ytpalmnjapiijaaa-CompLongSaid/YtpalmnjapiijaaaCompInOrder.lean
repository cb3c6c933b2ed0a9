/-
  Texts of earlier layers, as one.
-/
import Derived.Test.YtpalmnjapiijaaaCompNumber
import Derived.Test.YtpalmnjapiijaaaCompFindsWalk
/- The program's inOrder: the components in their order. -/
namespace Go.Proofs.Ytpalmnjapiijaaa.Gr
open Go.RowKit Mem Dsk

/-- The list that is answered, of colour 5. -/
structure L5 (w : World) (B : Nat) (col : Nat → Nat) (A : Option Addr) (m c : Nat) (hs : List Hd) : Prop where
  own : w.ownsRow B 27 LS.s (.slice A m c) m (LS.flat hs)
  clr : ∀ b, (Value.slice A m c).ownBlock = some b → col b = 5
section
variable {K : Nat → Prop} {B : Nat} {w w1 w' : World} {col col' : Nat → Nat} {A : Option Addr} {m c : Nat} {hs : List Hd}
theorem L5.trn (h : L5 w B col A m c hs) (t : Hq.Trn K w col w' col') (hk : ¬ K 5) : L5 w' B col' A m c hs :=
  ⟨own_keep h.own fun q hq hlt => t.blk q hlt (by rw [h.clr q hq]; exact hk), fun b hb => t.cl (h.clr b hb) (by omega)⟩
theorem L5.push {V : Option Addr} {c' : Nat} {x : Hd} (h : L5 w B col A m c hs) (hlo : Lo B w col) (hb : Below w.heap.size w w1) (hown : w'.ownsRow B 27 LS.s (.slice V (m + 1) c') (m + 1) (LS.flat (hs ++ [x]))) (hg : w1.grownBy w' (Value.slice A m c).ownBlock)
    (hloc : (Value.slice V (m + 1) c').ownBlock = (Value.slice A m c).ownBlock ∨ (Value.slice V (m + 1) c').ownBlock = some w1.heap.size) : ∃ col', Hq.Trn (fun q => q = 5) w col w' col' ∧ L5 w' B col' V (m + 1) c' (hs ++ [x]) := by
  have hblk : ∀ b, b < w.heap.size → ¬ col b = 5 → w'.heap[b]? = w.heap[b]? := fun b hlt hn => (hg.block b (Nat.lt_of_lt_of_le hlt hb.size) fun e => hn (h.clr b e.symm)).trans (hb.block b hlt)
  have hos := hg.os.trans hb.os
  have hta := hg.tape.trans hb.tape
  have hou := hg.output.trans hb.output
  have hsz := Nat.le_trans hb.size hg.size
  rcases hloc with h1 | h1
  · exact ⟨col, ⟨hos, hta, hou, hsz, fun _ _ => rfl, fun _ h => .inl h, hblk⟩, hown, fun b hb' => h.clr b (h1.symm.trans hb')⟩
  · refine ⟨upd col w1.heap.size 5, ⟨hos, hta, hou, hsz, fun b hb' => upd_other (by have := (hlo b hb').2; have := hb.size; omega), fun b hb' => ?_, hblk⟩, hown, fun b hb' => ?_⟩
    · by_cases e : b = w1.heap.size
      · right
        rw [e]
        exact ⟨hb.size, (hown.lt _ h1).2⟩
      · rw [upd_other e] at hb'
        exact .inl hb'
    · rw [h1] at hb'
      injection hb' with e
      rw [← e, upd_same]
end
theorem OS.blc {e : Graph} {K : Nat} {at_ gone : Nat → Nat} {pl : Nat → Bool} {BL BL' : Nat → List Nat} {F : List Nat} {wh : Nat → Nat} (h : OS e K at_ gone pl BL F wh) (hb : ∀ k, k < K → pl k = false → BL' k = BL k) : OS e K at_ gone pl BL' F wh := by
  refine { h with bl := fun k hk hp x => ?_, blN := fun k hk hp => ?_ }
  · rw [hb k hk hp]; exact h.bl k hk hp x
  · rw [hb k hk hp]; exact h.blN k hk hp
/-- What the first region makes. -/
def StRel (w : World) (A : Option Addr) (n c ct : Nat) (v7 : Value) (w' : World) : Prop := ∃ p bo g, v7 = .pointer (some ⟨p, 0, none⟩) ∧ Below w.heap.size w w' ∧ w.heap.size ≤ p ∧ p < w'.heap.size ∧ w.heap.size ≤ bo ∧ bo < w'.heap.size ∧ w.heap.size ≤ g ∧ g < w'.heap.size ∧ p ≠ bo ∧ p ≠ g ∧ bo ≠ g ∧
  Blk w' p 46 #[.slice A n c, .slice (some ⟨bo, 0, none⟩) n n, .slice (some ⟨g, 0, none⟩) 0 ct, .slice none 0 0] ∧ w'.rowIs bo 3 n (nrow fun _ => 0) ∧ Hdr LP w' g 53 ct []
theorem st_rm {w w' : World} {A : Option Addr} {n c ct : Nat} {v7 : Value} (e : Graph) (no : Nat → Hd) (h : StRel w A n c ct v7 w') : ∃ p bo g col, v7 = .pointer (some ⟨p, 0, none⟩) ∧ RM w A n c p bo g ct w' col (fun _ => 0) (nf no) 0 (nd e 0) (fun _ => []) none 0 [] := by
  obtain ⟨p, bo, g, rfl, hb, p1, p2, b1, b2, g1, g2, pb, pg, bg, hbx, hof, hd⟩ := h
  refine ⟨p, bo, g, upd (upd (upd (fun _ => 0) p 1) bo 2) g 3, rfl, hb, ⟨fun b hb' => ?_, by rw [upd_other pg, upd_other pb, upd_same], hbx, Own1.nil _ _ _ _⟩, by rw [upd_other bg, upd_same], upd_same .., hof, hd, fun k hk => by omega, fun k hk => by omega⟩
  by_cases e1 : b = g
  · omega
  · rw [upd_other e1] at hb'
    by_cases e2 : b = bo
    · omega
    · rw [upd_other e2] at hb'
      by_cases e3 : b = p
      · omega
      · rw [upd_other e3] at hb'
        exact absurd rfl hb'
theorem part_new (w : World) (ct : Nat) (hc : ct ≤ 1000000) (z : Array Value) : Hdr LP (w.alloc (.cells (madeCells z (ct * 5)) 53)) w.heap.size 53 ct [] :=
  ⟨madeCells z (ct * 5), heap_alloc_new w _, by simp [madeCells, LP], by unfold maxLen; omega, Nat.zero_le _, fun j x h => by simp at h⟩
theorem st_a (w : World) (A : Option Addr) (n c ct : Nat) (hc : ct ≤ 1000000) : StRel w A n c ct (.pointer (some ⟨w.heap.size + 1 + 1, 0, none⟩)) (((w.alloc (.cells (madeCells #[.int .i64 0] n) 3)).alloc (.cells (madeCells #[.slice none 0 0, .int .i64 0, .int .i64 0, .slice none 0 0, .bool false] (ct * 5)) 53)).alloc (.cells #[.slice A n c, .slice (some ⟨w.heap.size, 0, none⟩) n n, .slice (some ⟨w.heap.size + 1, 0, none⟩) 0 ct, .slice none 0 0] 46)).drew := by
  refine ⟨w.heap.size + 1 + 1, w.heap.size, w.heap.size + 1, rfl, Below.drew (bel_alloc (bel_alloc (bel_alloc (Below.refl _ _) _) _) _), by omega, by simp, by omega, by simp; omega, by omega, by simp, by omega, by omega, by omega, ?_, ?_, ?_⟩
  · have := Blk.new ((w.alloc (.cells (madeCells #[.int .i64 0] n) 3)).alloc (.cells (madeCells #[.slice none 0 0, .int .i64 0, .int .i64 0, .slice none 0 0, .bool false] (ct * 5)) 53)) 46 #[.slice A n c, .slice (some ⟨w.heap.size, 0, none⟩) n n, .slice (some ⟨w.heap.size + 1, 0, none⟩) 0 ct, .slice none 0 0]
    rw [size_alloc, size_alloc] at this
    exact this.drew
  · exact (((World.rowIs_made w (.int .i64 0) n 3).alloc _).alloc _).drew
  · have := part_new (w.alloc (.cells (madeCells #[.int .i64 0] n) 3)) ct hc #[.slice none 0 0, .int .i64 0, .int .i64 0, .slice none 0 0, .bool false]
    rw [size_alloc] at this
    exact this.bel (Below.drew (bel_alloc (Below.refl _ _) _))
theorem st_b (w : World) (A : Option Addr) (n c ct : Nat) (hc : ct ≤ 1000000) : StRel w A n c ct (.pointer (some ⟨w.heap.size + 1 + 1, 0, none⟩)) (((w.alloc (.cells (madeCells #[.slice none 0 0, .int .i64 0, .int .i64 0, .slice none 0 0, .bool false] (ct * 5)) 53)).alloc (.cells (madeCells #[.int .i64 0] n) 3)).alloc (.cells #[.slice A n c, .slice (some ⟨w.heap.size + 1, 0, none⟩) n n, .slice (some ⟨w.heap.size, 0, none⟩) 0 ct, .slice none 0 0] 46)).drew := by
  refine ⟨w.heap.size + 1 + 1, w.heap.size + 1, w.heap.size, rfl, Below.drew (bel_alloc (bel_alloc (bel_alloc (Below.refl _ _) _) _) _), by omega, by simp, by omega, by simp, by omega, by simp; omega, by omega, by omega, by omega, ?_, ?_, ?_⟩
  · have := Blk.new ((w.alloc (.cells (madeCells #[.slice none 0 0, .int .i64 0, .int .i64 0, .slice none 0 0, .bool false] (ct * 5)) 53)).alloc (.cells (madeCells #[.int .i64 0] n) 3)) 46 #[.slice A n c, .slice (some ⟨w.heap.size + 1, 0, none⟩) n n, .slice (some ⟨w.heap.size, 0, none⟩) 0 ct, .slice none 0 0]
    rw [size_alloc, size_alloc] at this
    exact this.drew
  · have := World.rowIs_made (w.alloc (.cells (madeCells #[.slice none 0 0, .int .i64 0, .int .i64 0, .slice none 0 0, .bool false] (ct * 5)) 53)) (.int .i64 0) n 3
    rw [size_alloc] at this
    exact (this.alloc _).drew
  · exact (part_new w ct hc #[.slice none 0 0, .int .i64 0, .int .i64 0, .slice none 0 0, .bool false]).bel (Below.drew (bel_alloc (bel_alloc (Below.refl _ _) _) _))
theorem no5 : ¬ KA 5 := by unfold KA; omega
theorem noh5 : ¬ Hq.KH 5 := by unfold Hq.KH; omega
/-- A matrix of the call's own. -/
def NewMI (w : World) (L : Graph) (x : Ending) (w' : World) : Prop := ∃ A c hs, x = .returned (.slice A L.length c) ∧ MI w' w.heap.size A L.length c hs L ∧ Below w.heap.size w w'
theorem MI.base {w : World} {B B' : Nat} {A : Option Addr} {m c : Nat} {hs : List Hd} {ls : Graph} (h : MI w B A m c hs ls) (hb : B' ≤ B) : MI w B' A m c hs ls := ⟨own_base h.own hb, h.len, h.row, fun a ha hn ad e => ⟨Nat.le_trans hb (h.low a ha hn ad e).1, (h.low a ha hn ad e).2⟩⟩
/-- The first loop: all are asked. -/
def AskRel (w0 : World) (A : Option Addr) (n c p bo g cg : Nat) (e : Graph) (K : Nat) (no : Nat → Hd) (_ v31 : Value) (wr : World) : Prop := ∃ (i : Nat) (col : Nat → Nat) (f : PF) (BL : Nat → List Nat) (Af : Option Addr) (cf : Nat) (F : List Nat) (wh : Nat → Nat), v31 = .int .i64 (i : Int) ∧ i ≤ K ∧ RM w0 A n c p bo g cg wr col (rk e) f K (nd e e.length) BL Af cf F ∧ OS e K f.a f.q f.pl BL F wh ∧ Hq.Hp F.length (Hq.G F) ∧ f.pl = (fun _ => false) ∧ f.no = no ∧ ∀ x, wh x = K + 1 ↔ i ≤ x
/-- The second loop: all are placed. -/
def PlRel (w0 : World) (A : Option Addr) (n c p bo g cg : Nat) (e : Graph) (K : Nat) (no : Nat → Hd) (gk : Nat) (v9 _ _ _ : Value) (wr : World) : Prop := ∃ (col : Nat → Nat) (f : PF) (BL : Nat → List Nat) (Af : Option Addr) (cf : Nat) (F : List Nat) (wh : Nat → Nat) (A9 : Option Addr) (c9 : Nat) (ks : List Nat), v9 = .slice A9 ks.length c9 ∧ left e (cm e f.pl) ≤ gk ∧ RM w0 A n c p bo g cg wr col (rk e) f K (nd e e.length) BL Af cf F ∧ OS e K f.a f.q f.pl BL F wh ∧ Hq.Hp F.length (Hq.G F) ∧ f.no = no ∧ (∀ x, x < K → wh x ≠ K + 1) ∧
  L5 wr w0.heap.size col A9 ks.length c9 (ks.map no) ∧ (∀ k ∈ ks, k < K) ∧ ks.map (nd e e.length) ++ compsF e (left e (cm e f.pl)) (cm e f.pl) = comps e
/-- Those behind the one that was placed are asked. -/
def BeRel (w0 : World) (A : Option Addr) (n c p bo g cg : Nat) (e : Graph) (K : Nat) (no : Nat → Hd) (pl : Nat → Bool) (d : Nat) (hd0 : Hd) (PL : List Nat) (A9 : Option Addr) (c9 : Nat) (ks : List Nat) (_ v73 : Value) (wr : World) : Prop := ∃ (t : Nat) (col : Nat → Nat) (f : PF) (BL : Nat → List Nat) (Af : Option Addr) (cf : Nat) (F : List Nat) (wh : Nat → Nat), v73 = .int .i64 (t : Int) ∧ t ≤ PL.length ∧ RM w0 A n c p bo g cg wr col (rk e) f K (nd e e.length) BL Af cf F ∧ OS e K f.a f.q f.pl BL F wh ∧ Hq.Hp F.length (Hq.G F) ∧ f.pl = pl ∧ f.no = no ∧ f.be d = hd0 ∧ BL d = PL ∧
  L5 wr w0.heap.size col A9 ks.length c9 (ks.map no) ∧ ∀ x, x < K → (wh x = K + 1 ↔ ∃ t', t ≤ t' ∧ PL[t']? = some x)
set_option maxRecDepth 20000 in
set_option maxHeartbeats 16000000 in
theorem inorder_any {w : World} {A : Option Addr} {n c b0 ct : Nat} {e : Graph} (ids : Nat → Nat) (hM : Mat w A n c e) (hz : ∀ l ∈ e, l.length ≤ 17592186044416) (hn : n ≤ 900000) (hct : ct ≤ n) (hid : ∀ v, v < n → ids v < ct) (hmu : ∀ u v, u < n → v < n → (ids u = ids v ↔ mutu e u v = true)) (hof : w.rowIs b0 3 n (nrow ids)) :
    Calls Try.prog 16 #[.slice A n c, .slice (some ⟨b0, 0, none⟩) n n, .int .i64 (ct : Int)] w (NewMI w (compsZ e)) := by
  have hln := hM.len
  have hmk := run_make_row' (P := Try.prog) 27 3 (.int .i64 0) 8 Try.underlying27 info_int rfl .i64 .i64 n (by omega) (by omega)
  have hmp : ∀ W : World, (Instr.makeSlice 43 (.int .i64 0) (.int .i64 (ct : Int))).run Try.prog W = .ok (.slice (some ⟨W.heap.size, 0, none⟩) 0 ct) (W.alloc (.cells (madeCells #[.slice none 0 0, .int .i64 0, .int .i64 0, .slice none 0 0, .bool false] (ct * 5)) 53)) := fun W => by
    obtain ⟨i0, hi0, hz0, hz1, hz2⟩ := info_parts info_part
    have := run_make (P := Try.prog) W 43 53 i0 (.agg #[.slice none 0 0, .int .i64 0, .int .i64 0, .slice none 0 0, .bool false]) Try.underlying43 hi0 hz0 .i64 .i64 0 (ct : Int) (by omega) (by omega) (by rw [hz2]; omega) (by omega)
    rw [hz1] at this
    simpa [Value.cells] using this
  have HM := Lib.hid (And.intro hM (And.intro hz (And.intro hln hn)))
  have HI := Lib.hid (And.intro hct (And.intro hid (And.intro hmu hof)))
  clear hM hz hid hmu hof hln
  go_enter Try.func16, Try.ntmps16
  go_upto_region 1 with fail
  go_cut [7] from 14 to 21 (StRel w A n c ct)
  case first =>
    go_region
    all_goals go_wp2_with fail
    all_goals go_meet
    all_goals first | exact st_a w A n c ct (by omega) | exact st_b w A n c ct (by omega)
  case rest =>
    obtain ⟨p, bo, g, col, rfl, hR⟩ := st_rm e (fun _ => (none, 0, 0)) hcut
    have HNU := Lib.hid (number_any ids HM.out.2.2.1 HM.out.2.2.2 HI.out.1 HI.out.2.1 HI.out.2.2.1 HI.out.2.2.2 hR)
    clear hcut hR hmk hmp
    unfold ptr at HNU
    go_wp2_with fail
    (with_reducible refine HNU.out.mono ?_)
    rintro r u1 ⟨rfl, g, cg, col, no, hR⟩
    clear HNU
    obtain ⟨K, hK⟩ : ∃ y, kc e e.length = y := ⟨_, rfl⟩
    have hKn : kc e n = K := by rw [← HM.out.2.2.1]; exact hK
    have hndn : nd e n = nd e e.length := by rw [HM.out.2.2.1]
    rw [hKn, hndn] at hR
    have hKle : K ≤ n := by rw [← hKn]; exact kc_le n
    have HAS := Lib.hid (show ∀ a, AskRel w A n c p bo g cg e K no a (.int .i64 ((0 : Nat) : Int)) u1 from fun _ => ⟨0, col, nf no, fun _ => [], none, 0, [], fun _ => K + 1, rfl, Nat.zero_le _, hR, OS.start hK.symm, fun k k0 kn => by simp at kn, rfl, rfl, fun x => by simp⟩)
    have HK := Lib.hid (And.intro hK hKle)
    obtain ⟨c0, c1, c2, c3⟩ := hR.cells
    clear hR hK hKn hndn hKle c0 c1 c3
    go_wp2_with fail
    go_loopw [8, 31] (AskRel w A n c p bo g cg e K no) (fun _ v _ => K - (intOf v).toNat)
    case atStart => simpa using HAS.out _
    case round =>
      rename World => wo
      obtain ⟨i, col, f, BL, Af, cf, F, wh, rfl, hi, h1, hO, hh, hpl, hno, hwh⟩ := hrel
      clear HAS c2
      by_cases hik : i < K
      · have hwi : IntKind.i64.wrap ((i : Int) + 1) = (i : Int) + 1 := wr64 (by omega) (by have := HK.out.2; have := HM.out.2.2.2; omega)
        have HAK := Lib.hid (ask_any HM.out.1 HM.out.2.1 h1 hO hh hik ((hwh i).2 (Nat.le_refl i)) (by rw [hpl]) HM.out.2.2.2)
        have HX := Lib.hid (And.intro hpl (And.intro hno hwh))
        unfold ptr at HAK
        clear h1 hO hh hpl hno hwh
        go_wp2_with fail
        (with_reducible refine HAK.out.mono ?_)
        rintro r u2 ⟨rfl, col2, f2, BL2, Af2, cf2, F2, wh2, h2, ht2, hO2, hh2, hpl2, hno2, hbe2, hwh2⟩
        have HF := Lib.hid (show ∀ a, AskRel w A n c p bo g cg e K no a (.int .i64 ((i + 1 : Nat) : Int)) u2 from fun _ => ⟨i + 1, col2, f2, BL2, Af2, cf2, F2, wh2, rfl, hik, h2, hO2, hh2, hpl2.trans HX.out.1, hno2.trans HX.out.2.1, fun x => by rw [hwh2, HX.out.2.2 x]; omega⟩)
        clear h2 ht2 hO2 hh2 hpl2 hno2 hbe2 hwh2 HAK
        go_wp2_with fail
        go_roundw
        case rel => simpa using HF.out _
        case measure =>
          simp [intOf]
          omega
      · have hik' : ¬ ((i : Int) < (K : Int)) := by omega
        have hiK : i = K := by omega
        have hml : ∀ W : World, (Instr.makeSlice 22 (.int .i64 0) (.int .i64 (ct : Int))).run Try.prog W = .ok (.slice (some ⟨W.heap.size, 0, none⟩) 0 ct) (W.alloc (.cells (madeCells #[.slice none 0 0] ct) 27)) := fun W => by
          obtain ⟨i0, hi0, hz0, hz1, hz2⟩ := info_parts info_irow
          have := run_make (P := Try.prog) W 22 27 i0 (.slice none 0 0) Try.underlying22 hi0 hz0 .i64 .i64 0 (ct : Int) (by omega) (by omega) (by rw [hz2]; omega) (by omega)
          rw [hz1] at this
          simpa [Value.cells] using this
        have hcm : cm e f.pl = fun _ => false := by
          rw [hpl]
          funext v
          simp [cm]
        have htr : Hq.Trn (fun _ => False) wo col (wo.alloc (.cells (madeCells #[.slice none 0 0] ct) 27)) (upd col wo.heap.size 5) := ⟨rfl, rfl, rfl, by simp, fun b hb => upd_other (by have := (h1.lo b hb).2; omega), fun b hb => by
          by_cases e1 : b = wo.heap.size
          · exact .inr ⟨by omega, by rw [size_alloc]; omega⟩
          · rw [upd_other e1] at hb; exact .inl hb, fun b hb _ => (bel_alloc (Below.refl _ _) _).block b hb⟩
        have HPL := Lib.hid (show ∀ a b d, PlRel w A n c p bo g cg e K no n (.slice (some ⟨wo.heap.size, 0, none⟩) 0 ct) a b d (wo.alloc (.cells (madeCells #[.slice none 0 0] ct) 27)) from fun _ _ _ => by
          refine ⟨_, f, BL, Af, cf, F, wh, some ⟨wo.heap.size, 0, none⟩, ct, [], rfl, ?_, h1.side htr (fun _ h => h.elim), hO, hh, hno, fun x hx hw => ?_, ⟨⟨rfl, .inr ⟨wo.heap.size, ct, madeCells #[.slice none 0 0] ct, rfl, h1.bel.size, heap_alloc_new wo _, Nat.zero_le _, by unfold maxLen; have := HM.out.2.2.2; omega, by simp [madeCells, LS], by simp [Lay.flat]⟩⟩, fun b hb => ?_⟩, fun k hk => by simp at hk, ?_⟩
          · rw [← HM.out.2.2.1]; exact left_le e _
          · have := (hwh x).1 hw
            omega
          · have : wo.heap.size = b := by injection hb
            rw [← this, upd_same]
          · rw [hcm]
            exact compsF_more _ _ _ (fun v w h => by cases h) (Nat.le_refl _) (left_le e _))
        clear h1 hO hh hpl hno hwh hcm htr hiK hi
        go_upto_region 9 with fail
        obtain ⟨W5, hW5⟩ : ∃ y, wo.alloc (.cells (madeCells #[.slice none 0 0] ct) 27) = y := ⟨_, rfl⟩
        obtain ⟨A9, hA9⟩ : ∃ y, (some ⟨wo.heap.size, 0, none⟩ : Option Addr) = y := ⟨_, rfl⟩
        have hE := HPL.out
        rw [hW5, hA9] at hE ⊢
        have HPL2 := Lib.hid hE
        clear hE HPL hW5 hA9 hml
        go_wp2_with fail
        go_loopg [9, 10, 11, 13] n (PlRel w A n c p bo g cg e K no)
        case atStart => exact HPL2.out _ _ _
        case round =>
          rename World => wm
          obtain ⟨col, f, BL, Af, cf, F, wh, A9, c9, ks, rfl, hgk, hR, hO, hh, hno, hall, h5, hks, hcs⟩ := hrel
          clear HPL2
          obtain ⟨c0, c1, c2, c3⟩ := hR.cells
          obtain ⟨FL, hFL⟩ : ∃ y, F.length = y := ⟨_, rfl⟩
          rw [hFL] at c3
          have HLEN := Lib.hid (Hq.len_any wm Af FL cf)
          have hfl := hO.flen
          have hkl : ks.length ≤ n := by
            have h6 : (ks.map (nd e e.length)).length ≤ (comps e).length := by rw [← hcs, List.length_append]; omega
            rw [List.length_map] at h6
            have := comps_length e
            have := HM.out.2.2.1
            omega
          rcases Nat.eq_zero_or_pos FL with h0 | hpos
          · have hF0 : F = [] := List.eq_nil_of_length_eq_zero (by rw [hFL, h0])
            have hev := hO.all_ hall hF0
            rw [compsF_done _ hev, List.append_nil] at hcs
            have hlen : (compsZ e).length = ks.length := by unfold compsZ; rw [← hcs, List.length_map, List.length_map]
            have HF := Lib.hid (show NewMI w (compsZ e) (.returned (.slice A9 ks.length c9)) wm from by
              refine ⟨A9, c9, ks.map no, by rw [hlen], ⟨?_, by rw [List.length_map, hlen], fun j a l ha hl => ?_, fun a ha hn0 ad had => ?_⟩, hR.bel⟩
              · rw [hlen]
                exact h5.own
              · unfold compsZ at hl
                rw [← hcs, List.map_map, List.getElem?_map] at hl
                rw [List.getElem?_map] at ha
                obtain ⟨k, hk1, rfl⟩ := Option.map_eq_some_iff.1 ha
                rw [hk1] at hl
                simp only [Option.map_some, Option.some.injEq] at hl
                subst hl
                have := (hR.nod k (hks k (List.mem_of_getElem? hk1))).rw_
                rw [hno] at this
                exact this
              · obtain ⟨k, hk1, rfl⟩ := List.mem_map.1 ha
                have hn1 := hR.nod k (hks k hk1)
                rw [hno] at hn1
                have hob : (Value.slice (no k).1 (no k).2.1 (no k).2.2).ownBlock = some ad.block := by rw [had]; rfl
                refine ⟨(hn1.row.lt _ hob).1, fun e5 => ?_⟩
                have q1 := hn1.clr _ hob
                have q2 := h5.clr _ (by rw [hlen] at e5; exact e5)
                omega)
            subst h0
            clear hgk hR hO hh hno hall h5 hks hcs c0 c1 c2 hFL hfl hkl hF0 hev hlen
            go_wp2_with fail
            (with_reducible refine HLEN.out.mono ?_)
            rintro r u ⟨rfl, rfl⟩
            go_wp2_with fail
            go_ret
            exact HF.out
          · have hpos' : (0 : Int) < (FL : Int) := by omega
            have HPO := Lib.hid (Hq.hpop_any wm hR.hn hh (by omega) (by have := HK.out.2; have := HM.out.2.2.2; omega))
            have HX := Lib.hid (And.intro hgk (And.intro hR (And.intro hO (And.intro hno (And.intro hall (And.intro h5 (And.intro hks (And.intro hcs hkl))))))))
            unfold Hq.ifc Hq.ptr3 at HPO
            clear hgk hR hO hh hno hall h5 hks hcs c0 c1 c2 hFL hfl hkl
            go_wp2_with fail
            (with_reducible refine HLEN.out.mono ?_)
            rintro r u ⟨rfl, rfl⟩
            clear HLEN
            go_wp2_with fail
            (with_reducible refine HPO.out.mono ?_)
            rintro r u2 ⟨d, F', rfl, hn2, hh2, hperm, hmin, htr⟩
            clear HPO c3 hpos hpos'
            obtain ⟨hgk, hR, hO, hno, hall, h5, hks, hcs, hkl⟩ := HX.out
            have hdF : d ∈ F := hperm.mem_iff.2 (by simp)
            obtain ⟨hdK, hwd⟩ := (hO.fr d).1 hdF
            have hpd := (hO.free d hdK hwd).1
            obtain ⟨v, hv, hrk, hnx, hnd, hmore⟩ := hO.next_ hall hdF hmin
            obtain ⟨hcs2, hlt2⟩ := comps_next hO.shut hnx hmore hcs
            have hO2 := hO.place hperm
            have h2 := hR.heap htr hn2
            have h52 := h5.trn htr noh5
            obtain ⟨h3, ht3⟩ := h2.setPl hdK true
            have h53 := h52.trn ht3 no5
            obtain ⟨d0, d1, d2, d3, d4⟩ := h2.part hdK
            have f4 := h2.soft (d * 5 + 4)
            obtain ⟨c0, c1, c2, c3⟩ := h2.cells
            have has := Hq.as_int (.int .i64 (d : Int))
            have HX3 := Lib.hid (And.intro h3 (And.intro h53 (And.intro hO2 (And.intro hh2 (And.intro hcs2 (And.intro hlt2 (And.intro hnd hpd)))))))
            clear hgk hR hO hno hall h5 hks hcs hkl hdF hwd hpd hv hrk hnx hmore hcs2 hO2 h2 h52 h3 ht3 h53 hn2 hh2 hperm hmin htr d0 d1 d2 d3 c0 c1 c3 hnd
            go_upto_region 13 with fail
            obtain ⟨W3, hW3⟩ : ∃ y, u2.setCell ⟨g, d * 5 + 4, none⟩ (.bool true) = y := ⟨_, rfl⟩
            obtain ⟨h3, h53, hrest⟩ := HX3.out
            rw [hW3] at h3 h53 ⊢
            have HX4 := Lib.hid hrest
            clear hW3 HX3 hrest c2 f4 has d4
            have hno : f.no = no := HX.out.2.2.2.1
            have hkl := HX.out.2.2.2.2.2.2.2.2
            obtain ⟨d0, d1, d2, d3, d4⟩ := h3.part hdK
            obtain ⟨⟨Nd, md, cd⟩, hnod⟩ : ∃ y, no d = y := ⟨_, rfl⟩
            have e0 : ({ f with pl := upd f.pl d true } : PF).no d = (Nd, md, cd) := by show f.no d = _; rw [hno, hnod]
            rw [e0] at d0
            obtain ⟨⟨Bd, mb, cb⟩, hbed⟩ : ∃ y, f.be d = y := ⟨_, rfl⟩
            have hb3 : Below W3.heap.size W3 (W3.alloc (.cells #[.slice Nd md cd] 27)) := bel_alloc (Below.refl _ _) _
            have hlit : Rw LS (W3.alloc (.cells #[.slice Nd md cd] 27)) (some ⟨W3.heap.size, 0, none⟩) 1 1 [(Nd, md, cd)] := Rw.lit (L := LS) W3 (Nd, md, cd) 27
            obtain ⟨i0, hi0, hz0, hz1, hz2⟩ := info_parts info_irow
            have hkn := HM.out.2.2.2
            obtain ⟨m9, hm9⟩ : ∃ y, ks.length = y := ⟨_, rfl⟩
            rw [hm9] at h53 hkl ⊢
            obtain ⟨V, c', u4, hrun, hown, hgr, hloc⟩ := run_append_rw (L := LS) (ty := 22) (bytes := 24) Try.underlying22 hi0 hz0 hz1 hz2 rfl (ownsRow_below h53.own hb3) hlit (by unfold maxLen; omega) (by omega) (Nat.le_trans h3.bel.size hb3.size)
            obtain ⟨col4, t4, h54⟩ := h53.push h3.lo hb3 hown hgr hloc
            have h4 := h3.side t4 (fun q hq => .inl hq)
            have hks' : (ks ++ [d]).length = m9 + 1 := by rw [List.length_append, hm9]; rfl
            have h54' : L5 u4 w.heap.size col4 V (ks ++ [d]).length c' ((ks ++ [d]).map no) := by
              rw [hks', List.map_append]
              show L5 u4 w.heap.size col4 V (m9 + 1) c' (ks.map no ++ [no d])
              rw [hnod]
              exact h54
            have hBL := h4.beh d hdK
            have e1 : ({ f with pl := upd f.pl d true } : PF).be d = (Bd, mb, cb) := hbed
            rw [e1] at hBL
            have hmb : (BL d).length = mb := by have := hBL.len; rw [toZ_length] at this; exact this
            obtain ⟨_, _, _, p3, _⟩ := h4.part hdK
            rw [e1] at p3
            have hpl0 : ∀ x, x ∈ BL d → x < K ∧ upd f.pl d true x = false := fun x hx => by
              obtain ⟨hxK, hwx⟩ := (HX.out.2.2.1.bl d hdK HX4.out.2.2.2.2.2 x).1 hx
              obtain ⟨q1, q2, _⟩ := HX.out.2.2.1.wait x hxK (by omega)
              exact ⟨hxK, by rw [upd_other (fun ex => q2 (by rw [hwx, ex]))]; exact q1⟩
            have hndup := HX.out.2.2.1.blN d hdK HX4.out.2.2.2.2.2
            have HBE := Lib.hid (show ∀ a, BeRel w A n c p bo g cg e K no (upd f.pl d true) d (Bd, mb, cb) (BL d) V c' (ks ++ [d]) a (.int .i64 ((0 : Nat) : Int)) u4 from fun _ => ⟨0, col4, _, BL, Af, cf, F', whP wh K d, rfl, Nat.zero_le _, h4, HX4.out.1, HX4.out.2.1, rfl, hno, hbed, rfl, h54', fun x hxK => by
              unfold whP
              by_cases ex : x = d
              · rw [if_pos ex]
                constructor
                · intro h; omega
                · rintro ⟨t', _, ht'⟩
                  have h6 := (hpl0 x (List.mem_of_getElem? ht')).2
                  rw [ex, upd_same] at h6
                  cases h6
              · rw [if_neg ex]
                constructor
                · intro h
                  by_cases e2 : wh x = d
                  · obtain ⟨t', ht'⟩ := List.getElem?_of_mem ((HX.out.2.2.1.bl d hdK HX4.out.2.2.2.2.2 x).2 ⟨hxK, e2⟩)
                    exact ⟨t', Nat.zero_le _, ht'⟩
                  · rw [if_neg e2] at h
                    exact absurd h (HX.out.2.2.2.2.1 x hxK)
                · rintro ⟨t', _, ht'⟩
                  have h6 := ((HX.out.2.2.1.bl d hdK HX4.out.2.2.2.2.2 x).1 (List.mem_of_getElem? ht')).2
                  rw [if_pos h6]⟩)
            have HRUN := Lib.hid hrun
            have HP := Lib.hid (And.intro hmb (And.intro hpl0 (And.intro hndup (And.intro hm9 (And.intro hnod (And.intro hno hkl))))))
            clear h3 h53 hno hkl d1 d2 d3 d4 hnod e0 hb3 hlit hi0 hz0 hz1 hz2 i0 hkn hm9 hrun hown hgr hloc t4 h54 h4 hks' h54' hBL e1 hmb hpl0 hndup hbed
            go_upto_region 14 with (at_builtin; refine wpList_append_row rfl (.tmp 61) (.tmp 66) rfl HRUN.out ?_)
            clear d0 HRUN
            go_wp2_with fail
            go_loopw [13, 73] (BeRel w A n c p bo g cg e K no (upd f.pl d true) d (Bd, mb, cb) (BL d) V c' (ks ++ [d])) (fun _ v _ => mb - (intOf v).toNat)
            case atStart => simpa using HBE.out _
            case round =>
              rename World => wb
              obtain ⟨t, colb, fb, BLb, Afb, cfb, Fb, whb, rfl, ht, hRb, hOb, hhb, hplb, hnob, hbeb, hBLb, h5b, hwhb⟩ := hrel
              clear HBE p3
              by_cases htm : t < mb
              · obtain ⟨x, hx⟩ : ∃ x, (BL d)[t]? = some x := ⟨_, List.getElem?_eq_getElem (by rw [HP.out.1]; exact htm)⟩
                have hrow := hRb.beh d hdK
                rw [hbeb, hBLb] at hrow
                obtain ⟨_, gB, oB, hB, _, e2⟩ := nat_cell hrow hx
                have hB : Bd = some ⟨gB, oB, none⟩ := hB
                subst hB
                obtain ⟨hxK, hxp⟩ := HP.out.2.1 x (List.mem_of_getElem? hx)
                have HAK := Lib.hid (ask_any HM.out.1 HM.out.2.1 hRb hOb hhb hxK ((hwhb x hxK).2 ⟨t, Nat.le_refl _, hx⟩) (by rw [hplb]; exact hxp) HM.out.2.2.2)
                have hwt : IntKind.i64.wrap ((t : Int) + 1) = (t : Int) + 1 := wr64 (by omega) (by have h7 := hrow.rw_.le; have h8 := hrow.rw_.cap; unfold maxLen at h8; have h9 : mb ≤ cb := h7; have h10 : cb ≤ 9223372036854775807 := h8; omega)
                have HX5 := Lib.hid (And.intro hplb (And.intro hnob (And.intro hbeb (And.intro hBLb (And.intro h5b (And.intro hwhb hx))))))
                unfold ptr at HAK
                clear hRb hOb hhb hplb hnob hbeb hBLb h5b hwhb hrow hx hxp
                go_wp2_with fail
                (with_reducible refine HAK.out.mono ?_)
                rintro r u5 ⟨rfl, col6, f6, BL6, Af6, cf6, F6, wh6, h6, ht6, hO6, hh6, hpl6, hno6, hbe6, hwh6⟩
                have HF := Lib.hid (show ∀ a, BeRel w A n c p bo g cg e K no (upd f.pl d true) d (some ⟨gB, oB, none⟩, mb, cb) (BL d) V c' (ks ++ [d]) a (.int .i64 ((t + 1 : Nat) : Int)) u5 from fun _ => by
                  obtain ⟨hplb, hnob, hbeb, hBLb, h5b, hwhb, hx⟩ := HX5.out
                  have hdb : fb.pl d = true := by rw [hplb, upd_same]
                  refine ⟨t + 1, col6, f6, BL6, Af6, cf6, F6, wh6, rfl, by rw [HP.out.1]; exact htm, h6, hO6, hh6, hpl6.trans hplb, hno6.trans hnob, (hbe6 d hdb).1.trans hbeb, (hbe6 d hdb).2.trans hBLb, h5b.trn ht6 no5, fun y hyK => ?_⟩
                  rw [hwh6 y, hwhb y hyK]
                  constructor
                  · rintro ⟨⟨t', h1, h2⟩, h3⟩
                    refine ⟨t', ?_, h2⟩
                    have : t' ≠ t := fun e => by
                      rw [e, hx] at h2
                      exact h3 (Option.some.inj h2).symm
                    omega
                  · rintro ⟨t', h1, h2⟩
                    refine ⟨⟨t', by omega, h2⟩, fun e => ?_⟩
                    rw [e] at h2
                    have := nodup_at HP.out.2.2.1 hx h2
                    omega)
                clear h6 ht6 hO6 hh6 hpl6 hno6 hbe6 hwh6 HAK
                go_wp2_with fail
                go_roundw
                case rel => simpa using HF.out _
                case measure =>
                  simp [intOf]
                  omega
              · have htm' : ¬ ((t : Int) < (mb : Int)) := by omega
                have hRn := hRb.setBe hdK (V := none) (m := 0) (c' := 0) (B' := []) (Turns.refl _ wb colb) (Own1.nil _ _ _ _)
                obtain ⟨_, _, _, p3, _⟩ := hRb.part hdK
                have f3 := hRb.soft (d * 5 + 3)
                have HF := Lib.hid (show ∀ a b x, PlRel w A n c p bo g cg e K no (left e (cm e (upd f.pl d true))) (.slice V (m9 + 1) c') a b x (wb.setCell ⟨g, d * 5 + 3, none⟩ (.slice none 0 0)) from fun _ _ _ => by
                  refine ⟨colb, _, _, Afb, cfb, Fb, whb, V, c', ks ++ [d], by rw [List.length_append, HP.out.2.2.2.1]; rfl, ?_, hRn.1, ?_, hhb, hnob, fun x hxK hw => ?_, h5b.trn hRn.2 no5, fun k hk => ?_, ?_⟩
                  · show left e (cm e fb.pl) ≤ _
                    rw [hplb]
                    exact Nat.le_refl _
                  · refine hOb.blc fun k hk hpk => upd_other fun ek => ?_
                    rw [hplb, ek, upd_same] at hpk
                    cases hpk
                  · obtain ⟨t', h1, h2⟩ := (hwhb x hxK).1 hw
                    have := (List.getElem?_eq_some_iff.1 h2).1
                    have := HP.out.1
                    omega
                  · rcases List.mem_append.1 hk with hk | hk
                    · exact HX.out.2.2.2.2.2.2.1 k hk
                    · rw [List.mem_singleton.1 hk]; exact hdK
                  · show (ks ++ [d]).map (nd e e.length) ++ compsF e (left e (cm e fb.pl)) (cm e fb.pl) = comps e
                    rw [hplb, List.map_append]
                    show (ks.map (nd e e.length) ++ [nd e e.length d]) ++ _ = _
                    rw [HX4.out.2.2.2.2.1]
                    exact HX4.out.2.2.1)
                clear hRb hOb hhb hplb hnob hbeb hBLb h5b hwhb hRn ht
                go_wp2_with fail
                go_roundg (left e (cm e (upd f.pl d true)))
                case measure => have := HX.out.1; have := HX4.out.2.2.2.1; omega
                case rel => exact HF.out _ _ _
end Go.Proofs.Ytpalmnjapiijaaa.Gr
