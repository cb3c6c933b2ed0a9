/-
  Texts of earlier layers, as one.
-/
import Derived.Test.YtgnpnjfoenmfbaaBagAsk
import Derived.Test.YtgnpnjfoenmfbaaBagDel
/- The program's takeOut: those of which the question tells true are out. -/
namespace Go.Proofs.Ytgnpnjfoenmfbaa.Bg
open Go.RowKit Mem Dsk

set_option maxRecDepth 20000 in
set_option maxHeartbeats 4000000 in
theorem takeout_any (F : Nat) (cap : Value) (q : Pe → Bool) (p : Nat) (S : Nat → Prop) (A : Option Addr) (c : Nat) (es : List Pe) (r nx : Int) (w : World) (ho : Own w S p A c es r nx) (hF : ∀ args W, (callFunc F args).run Try.prog W = .ok (.enter F args) W)
    (hq : ∀ u x, x ∈ es → Keeps (Row A) w u → Calls Try.prog F #[valP x, cap] u (Tells (q x) u)) :
    Calls Try.prog 19 #[ptr p, .func (.func F) #[] #[cap]] w (fun e w' => e = .returned (.int .i64 ((es.length : Int) - ((es.filter fun y => !q y).length : Int))) ∧ Own w' S p A c (es.filter fun y => !q y) r nx ∧ Keeps S w w') := by
  have HD := Lib.hid (delete_any F cap q es A c w ho.row hF hq)
  have hle : (es.filter fun y => !q y).length ≤ es.length := List.length_filter_le _ _
  have hcap := And.intro ho.rw_.le ho.rw_.cap
  unfold maxLen at hcap
  obtain ⟨c0, _, _⟩ := ho.cells
  have HO := Lib.hid ho
  unfold DelIs at HD
  have hcut := fun (u : World) (hk : Keeps (Row A) w u) (hr : u.ownsRow 0 50 LP.s (.slice A (es.filter fun y => !q y).length c) (es.filter fun y => !q y).length (LP.flat (es.filter fun y => !q y))) => ho.cut (es' := es.filter fun y => !q y) hk hr rfl
  obtain ⟨fs, hfs⟩ : ∃ v, (es.filter fun y => !q y) = v := ⟨_, rfl⟩
  rw [hfs] at HD hle hcut ⊢
  obtain ⟨n, hn⟩ : ∃ n, es.length = n := ⟨_, rfl⟩
  obtain ⟨m, hm⟩ : ∃ m, fs.length = m := ⟨_, rfl⟩
  rw [hn] at HD hle hcap c0 ⊢
  rw [hm] at HD hle hcut ⊢
  have hw : IntKind.i64.wrap ((n : Int) - (m : Int)) = (n : Int) - (m : Int) := wr64 (by omega) (by omega)
  have HC := Lib.hid hcut
  have HE := Lib.hid hn
  clear ho hq hF hcut hfs hn hm
  unfold ptr
  go_enter Try.func19, Try.ntmps19
  go_wp2_with fail
  refine HD.out.mono ?_
  rintro e u ⟨rfl, hr, hk⟩
  have hb := (hk.block p (HO.out.lt p HO.out.sp) HO.out.rp).trans HO.out.box
  obtain ⟨d0, _, _⟩ := blk3 hb
  have f0 := Blk.soft hb 0
  rw [HE.out] at d0
  have HR := Lib.hid (HC.out u hk hr)
  clear hr hk hb HD
  go_wp2_with fail
  go_ret
  exact ⟨rfl, HR.out.1, HR.out.2⟩
end Go.Proofs.Ytgnpnjfoenmfbaa.Bg
