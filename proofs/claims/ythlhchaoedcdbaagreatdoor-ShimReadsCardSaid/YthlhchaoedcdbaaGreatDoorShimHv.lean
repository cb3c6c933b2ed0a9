/-
  Texts of earlier layers, as one.
-/
import Derived.Test.YthlhchaoedcdbaaGreatDoorShimRef
import Derived.Test.YthlhchaoedcdbaaGreatDoorMsgAw
/- What the laws ask of the program's Down, Up, For and Read. -/
namespace Go.Proofs.YthlhchaoedcdbaaGreatDoor.Mg
open Lib (hid)
open Go.RowKit Mem Ids Att Rk Cod
def HasDown : Prop := ∀ (aM aR aN aB aC aT aU aS aK aL aQ : Int) (aY aV : ByteArray) (aZ : Int) (aA : Option Addr) (an ac : Nat) (aE aG aW : Int) (al : List (Int × Int)) (w : World), Glob w → Rs w aA an ac al → Calls Tryz.prog 7 #[.agg #[.int .i64 aM, .int .i64 aR, .int .i64 aN, .int .i64 aB, .int .i64 aC, .int .i64 aT, .int .i64 aU, .int .i64 aS, .int .i64 aK, .int .i64 aL, .int .i64 aQ, .string aY, .string aV, .int .i64 aZ, .slice aA an ac, .int .i64 aE, .int .i64 aG, .int .i64 aW]] w (DownIs ⟨aM, (aR, aN), (aB, aC), (aT, aU), aS, ⟨aK, aL, aQ, aY, aV, aZ⟩, ⟨al, aE, aG⟩, aW⟩ w)
def HasUp : Prop := ∀ (b : List Nat) (A : Option Addr) (m c : Nat) (w : World), Glob w → Rd w A m c (cs b) → (∀ x ∈ b, x < 256) → m ≤ 900000 → Calls Tryz.prog 12 #[.slice A m c] w (TakesNw w (refUp (openX 1 b)))
def HasRead : Prop := ∀ (b : List Nat) (A : Option Addr) (m c : Nat) (v : Int) (w : World), Glob w → Rd w A m c (cs b) → (∀ x ∈ b, x < 256) → m ≤ 900000 → Calls Tryz.prog 15 #[.slice A m c, .int .i64 v] w (TakesNw w (refReads v b))
theorem frame_lt' (v : Nat) (hv : v < 256) {p : List Nat} (hp : ∀ b ∈ p, b < 256) : ∀ b ∈ frame v p, b < 256 := by
 intro b hb;have hs := Crc.sum_lt p hp;simp only [frame, sb, List.mem_cons, List.mem_append, List.not_mem_nil, or_false] at hb;rcases hb with rfl | (rfl | rfl | rfl | rfl) | h
 · exact hv
 · omega
 · omega
 · omega
 · omega
 · exact hp b h
end Go.Proofs.YthlhchaoedcdbaaGreatDoor.Mg
/- The document's example of the old form, and a greeting that goes down and up. -/
namespace Go.Proofs.YthlhchaoedcdbaaGreatDoor.Mg
open Lib (hid)
open Go.RowKit Mem Ids Att Rk Cod
def getting : Mg := ⟨1, (0, 0), (0, 0), (0, 0), 0, ⟨1, 1, 1, ⟨#[97]⟩, ⟨#[]⟩, 0⟩, ⟨[], 0, 2⟩, 0⟩
def greeting : Mg := ⟨9, (0, 0), (0, 0), (0, 0), 0, ⟨0, 0, 0, ⟨#[]⟩, ⟨#[]⟩, 0⟩, ⟨[], 0, 0⟩, 1⟩
theorem getting_down : refDown getting = ([], 17) := down_none (by decide +kernel) (by decide +kernel)
theorem greeting_right : mright greeting = true := by decide +kernel
theorem greeting_has : noOld greeting = false := by decide +kernel
theorem greeting_down : refDown greeting = (frame 1 (form (oldMg greeting)), 0) := down_yes greeting_right greeting_has
theorem greeting_it : oldMg greeting = .mk 2 0 ByteArray.empty [.mk 0 9 ByteArray.empty [], .mk 0 1 ByteArray.empty []] := rfl
theorem greeting_len : (form (oldMg greeting)).length = 6 := by rw [greeting_it]; decide +kernel
theorem fit_num (k : Int) (n : Nat) (h : n ≤ 9) : Fit (.mk k n ByteArray.empty []) := by
 rw [fit_eq];refine ⟨by show n < 2 ^ 64; omega, by show ByteArray.empty.size < 2 ^ 63; decide, by show (0 : Nat) < 2 ^ 63; decide, fun y hy => by cases hy⟩
theorem greeting_fit : Fit (oldMg greeting) := by
 rw [greeting_it, fit_eq];refine ⟨by decide, by decide, by decide, fun y hy => ?_⟩;have hy : y ∈ [It.mk 0 9 ByteArray.empty [], .mk 0 1 ByteArray.empty []] := hy;simp only [List.mem_cons, List.not_mem_nil, or_false] at hy;rcases hy with rfl | rfl
 · exact fit_num _ _ (by omega)
 · exact fit_num _ _ (by omega)
set_option maxRecDepth 100000 in
set_option maxHeartbeats 8000000 in
theorem shim_awake (hD : HasDown) (hU : HasUp) (w : World) (hT : Glob w) : Calls Tryz.prog 6 #[] w (Tells true w) := by
 have hk0 := Blk.new w 27 #[.int .i64 1, .int .i64 1, .int .i64 1, .string ⟨#[97]⟩, .string ⟨#[]⟩, .int .i64 0];have hb0 := bel_alloc (Below.refl w.heap.size w) (.cells #[.int .i64 1, .int .i64 1, .int .i64 1, .string ⟨#[97]⟩, .string ⟨#[]⟩, .int .i64 0] 27);obtain ⟨W, hW⟩ : ∃ v, w.alloc (.cells #[.int .i64 1, .int .i64 1, .int .i64 1, .string ⟨#[97]⟩, .string ⟨#[]⟩, .int .i64 0] 27) = v := ⟨_, rfl⟩
 rw [hW] at hk0 hb0;have HDN := hid (fun (u : World) (h : Below w.heap.size w u) => (show Calls Tryz.prog 7 #[.agg #[.int .i64 1, .int .i64 0, .int .i64 0, .int .i64 0, .int .i64 0, .int .i64 0, .int .i64 0, .int .i64 0, .int .i64 1, .int .i64 1, .int .i64 1, .string ⟨#[97]⟩, .string ⟨#[]⟩, .int .i64 0, .slice none 0 0, .int .i64 0, .int .i64 2, .int .i64 0]] u (DownIs getting u) from hD 1 0 0 0 0 0 0 0 1 1 1 ⟨#[97]⟩ ⟨#[]⟩ 0 none 0 0 0 2 0 [] u (hT.below h) (Rs.nil_ u)));have HDH := hid (fun (u : World) (h : Below w.heap.size w u) => (show Calls Tryz.prog 7 #[.agg #[.int .i64 9, .int .i64 0, .int .i64 0, .int .i64 0, .int .i64 0, .int .i64 0, .int .i64 0, .int .i64 0, .int .i64 0, .int .i64 0, .int .i64 0, .string ⟨#[]⟩, .string ⟨#[]⟩, .int .i64 0, .slice none 0 0, .int .i64 0, .int .i64 0, .int .i64 1]] u (DownIs greeting u) from hD 9 0 0 0 0 0 0 0 0 0 0 ⟨#[]⟩ ⟨#[]⟩ 0 none 0 0 0 0 1 [] u (hT.below h) (Rs.nil_ u)));have HUP := hid (fun A n c (u : World) (h : Below w.heap.size w u) (hr : Rd u A n c (cs (frame 1 (form (oldMg greeting))))) (hn : n ≤ 900000) => hU (frame 1 (form (oldMg greeting))) A n c u (hT.below h) hr (frame_lt' 1 (by decide) (Cp.form_bytes _ greeting_fit)) hn);have HW := hid hW;have HB0 := hid hb0;obtain ⟨x0, x1, x2, x3, x4, x5⟩ := Cw.blk6 hk0;clear hW hb0 hk0 hT hD hU;go_enter Tryz.func6, Tryz.ntmps6
 go_upto_region 2 with fail
 rw [HW.out];go_wp2_with fail
 refine (HDN.out _ HB0.out).mono ?_;rintro e w1 ⟨A, n, c, rfl, _, hb1, _⟩;rw [getting_down];have HB1 := hid (bel_trans HB0.out hb1);clear hb1 x0 x1 x2 x3 x4 x5 HDN HB0;go_wp2_with fail
 refine (HDH.out _ HB1.out).mono ?_;rintro e w2 ⟨A2, n2, c2, rfl, hr, hb2, _⟩;rw [greeting_down] at hr ⊢;simp only at hr ⊢
 have hn : n2 = 11 := by
  have h := hr.len;rw [length_cs, length_frame, greeting_len] at h;omega
 subst hn;have HB2 := hid (bel_trans HB1.out hb2);have hup := HUP.out A2 11 c2 w2 HB2.out hr (by decide);rw [up_down greeting_right greeting_has greeting_fit] at hup;have HUP2 := hid hup;have HR := hid hr;clear hup hr hb2 HUP HDH HB1;go_wp2_with fail
 refine HUP2.out.mono ?_;rintro e w3 ⟨V, k, c3, rfl, _, _, hb3⟩;have hb4 := bel_alloc (bel_trans HB2.out hb3) (.cells #[.int .i64 9, .int .i64 0, .int .i64 0, .int .i64 0, .int .i64 0, .int .i64 0, .int .i64 0, .int .i64 0, .int .i64 0, .int .i64 0, .int .i64 0, .string ⟨#[]⟩, .string ⟨#[]⟩, .int .i64 0, .slice V k c3, .int .i64 0, .int .i64 0, .int .i64 1] 32);have hk4 := Blk.new w3 32 #[.int .i64 9, .int .i64 0, .int .i64 0, .int .i64 0, .int .i64 0, .int .i64 0, .int .i64 0, .int .i64 0, .int .i64 0, .int .i64 0, .int .i64 0, .string ⟨#[]⟩, .string ⟨#[]⟩, .int .i64 0, .slice V k c3, .int .i64 0, .int .i64 0, .int .i64 1];have hr4 := (HR.out.below hb3).below (bel_alloc (Below.refl w3.heap.size w3) (.cells #[.int .i64 9, .int .i64 0, .int .i64 0, .int .i64 0, .int .i64 0, .int .i64 0, .int .i64 0, .int .i64 0, .int .i64 0, .int .i64 0, .int .i64 0, .string ⟨#[]⟩, .string ⟨#[]⟩, .int .i64 0, .slice V k c3, .int .i64 0, .int .i64 0, .int .i64 1] 32));have hval : (#[.int .i64 greeting.kd, .int .i64 greeting.id.1, .int .i64 greeting.id.2, .int .i64 greeting.bl.1, .int .i64 greeting.bl.2, .int .i64 greeting.tk.1, .int .i64 greeting.tk.2, .int .i64 greeting.st, .int .i64 greeting.cm.kd, .int .i64 greeting.cm.cl, .int .i64 greeting.cm.sq, .string greeting.cm.ky, .string greeting.cm.vl, .int .i64 greeting.cm.rv, .slice V k c3, .int .i64 greeting.at_.sq, .int .i64 greeting.at_.tg, .int .i64 greeting.vn] : Array Value) = #[.int .i64 9, .int .i64 0, .int .i64 0, .int .i64 0, .int .i64 0, .int .i64 0, .int .i64 0, .int .i64 0, .int .i64 0, .int .i64 0, .int .i64 0, .string ⟨#[]⟩, .string ⟨#[]⟩, .int .i64 0, .slice V k c3, .int .i64 0, .int .i64 0, .int .i64 1] := rfl;simp only;rw [hval];obtain ⟨W4, hW4⟩ : ∃ W, w3.alloc (.cells #[.int .i64 9, .int .i64 0, .int .i64 0, .int .i64 0, .int .i64 0, .int .i64 0, .int .i64 0, .int .i64 0, .int .i64 0, .int .i64 0, .int .i64 0, .string ⟨#[]⟩, .string ⟨#[]⟩, .int .i64 0, .slice V k c3, .int .i64 0, .int .i64 0, .int .i64 1] 32) = W := ⟨_, rfl⟩
 rw [hW4] at hb4 hk4 hr4;have HW4 := hid hW4;have HB4 := hid hb4;obtain ⟨ad, rfl, hc0⟩ := Cp.head_cell (b := 1) (r := sb (Crc.sum (form (oldMg greeting))) ++ form (oldMg greeting)) hr4;have y17 := hk4.cell 17;simp at y17;clear hb4 hk4 hW4 hr4 hb3 HUP2 hval HR HB2;go_upto_region 5 with fail
 rw [HW4.out];go_wp2_with fail
 go_ret;exact ⟨rfl, HB4.out⟩
end Go.Proofs.YthlhchaoedcdbaaGreatDoor.Mg
