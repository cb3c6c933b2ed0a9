/-
  Texts of earlier layers, as one.
-/
import Derived.Test.YtjfpfbagckckkaaGreatDoorRows
import Derived.Test.YtjfpfbagckckkaaGreatDoorMsgOw
import Derived.Test.YtjfpfbagckckkaaGreatDoorRCrc
import Derived.Lib.LaidTab
import Derived.LaidSub
import Derived.LaidLaws
import Derived.Deep.DeepHandedRow
import Derived.Test.YtjfpfbagckckkaaGreatDoorMsgCP
import Derived.Test.YtjfpfbagckckkaaGreatDoorMsgOwnTake
import Derived.Deep.Cut
/- What the rows' lists give: both tables lie in the world as the program's text lays them; and a world for the witnesses. -/
namespace Go.Proofs.YtjfpfbagckckkaaGreatDoor.Mg
open Go.ChangeShapes Go.WideShapes Go.ChangeAt Go.RowKit
def kinds10 : List Int := [0, 27, 19, 27, 3, 25, 3, 31, 3, 32]
theorem gTab : Tryz.prog.globalNamed "stonecrop/crc.halves" = some 1 := by kernel_rfl
theorem gNam : Tryz.prog.globalNamed "stonecrop/msg.named" = some 0 := by kernel_rfl
theorem gTabType : (Tryz.prog.globals[1]?).map (·.type) = some 180 := by kernel_rfl
theorem gNamType : (Tryz.prog.globals[0]?).map (·.type) = some 96 := by kernel_rfl
theorem cellsTab : Tryz.prog.cellsOf 180 = 16 := by kernel_rfl
theorem cellsNam : Tryz.prog.cellsOf 96 = 10 := by kernel_rfl
theorem cellsWord : Tryz.prog.cellsOf 74 = 1 := by kernel_rfl
theorem cellsInt : Tryz.prog.cellsOf 3 = 1 := by kernel_rfl
def Glob (w : World) : Prop := Cr.Tab w ∧ Nam w
theorem Glob.below {w w' : World} (h : Glob w) (hb : Below w.heap.size w w') : Glob w' := ⟨h.1.below hb, h.2.below hb⟩
theorem globOf {W : World} (h : laidMetH Tryz.prog [("stonecrop/crc.halves", Rows.laid_stonecrop_crc_halves), ("stonecrop/msg.named", Rows.laid_stonecrop_msg_named)] W) : Glob W := by
 refine ⟨fun i hi => ?_, fun k hk => ?_⟩
 · have h1 : Lib.TabIs Tryz.prog W "stonecrop/crc.halves" .u32 (Crc.tab.map fun (n : Nat) => (n : Int)) := Lib.tabIs_of_head gTab gTabType Tryz.underlying180 Tryz.underlying74 cellsWord cellsTab h
   have hc := h1.cell gTab i (by simpa [Crc.tab] using hi)
   rw [hc]
   have ht := Crc.tab_ok i hi
   simp [List.getD, List.getElem?_map, ht]
 · have h1 := laidMetH.filter (fun x => x.1 == "stonecrop/msg.named") h
   have h2 : Lib.TabIs Tryz.prog W "stonecrop/msg.named" .i64 kinds10 := Lib.tabIs_of_head (rest := []) gNam gNamType Tryz.underlying96 Tryz.underlying3 cellsInt cellsNam h1
   exact (h2.cell gNam k hk).trans rfl
noncomputable def putTab (k : IntKind) (zs : List Int) : Obj → Obj
 | .cells _ t frozen => .cells (zs.map fun z => Value.int k z).toArray t frozen
 | o => o
noncomputable def laidWorld (os : Os) : World :=
 let w0 := World.holding Tryz.prog os ⟨#[], #[], []⟩
 { w0 with heap := (w0.heap.modify 1 (putTab .u32 (Crc.tab.map fun (n : Nat) => (n : Int)))).modify 0 (putTab .i64 kinds10) }
end Go.Proofs.YtjfpfbagckckkaaGreatDoor.Mg
/- The document's example. -/
namespace Go.Proofs.YtjfpfbagckckkaaGreatDoor.Mg
open Go.RowKit Mem Ids Att Rk Cod
def hello : Mg := ⟨9, (0, 0), (0, 0), (0, 0), 0, ⟨0, 0, 0, ⟨#[]⟩, ⟨#[]⟩, 0⟩, ⟨[], 0, 0⟩, 2⟩
theorem hello_right : mright hello = true := by decide +kernel
theorem hello_chk : mchk hello = 0 := by unfold mchk; rw [if_pos hello_right]
theorem zero_chk : mchk ⟨0, (0, 0), (0, 0), (0, 0), 0, ⟨0, 0, 0, ⟨#[]⟩, ⟨#[]⟩, 0⟩, ⟨[], 0, 0⟩, 0⟩ = 4 := by decide +kernel
theorem hello_it : mgIt hello = .mk 2 0 ByteArray.empty [.mk 0 9 ByteArray.empty [], .mk 0 2 ByteArray.empty []] := rfl
theorem hello_len : (form (mgIt hello)).length = 6 := by rw [hello_it]; decide +kernel
theorem fit_small (k : Int) (n : Nat) (h : n ≤ 9) : Fit (.mk k n ByteArray.empty []) := by
 rw [fit_eq]
 refine ⟨by show n < 2 ^ 64; omega, by show ByteArray.empty.size < 2 ^ 63; decide, by show (0 : Nat) < 2 ^ 63; decide, fun y hy => by cases hy⟩
theorem hello_fit : Fit (mgIt hello) := by
 rw [hello_it, fit_eq]
 refine ⟨by decide, by decide, by decide, fun y hy => ?_⟩
 have hy : y ∈ [It.mk 0 9 ByteArray.empty [], .mk 0 2 ByteArray.empty []] := hy
 simp only [List.mem_cons, List.not_mem_nil, or_false] at hy
 rcases hy with rfl | rfl
 · exact fit_small _ _ (by omega)
 · exact fit_small _ _ (by omega)
theorem frame_lt (v : Nat) (hv : v < 256) {p : List Nat} (hp : ∀ b ∈ p, b < 256) : ∀ b ∈ frame v p, b < 256 := by
 intro b hb
 have hs := Crc.sum_lt p hp
 simp only [frame, sb, List.mem_cons, List.mem_append, List.not_mem_nil, or_false] at hb
 rcases hb with rfl | (rfl | rfl | rfl | rfl) | h
 · exact hv
 · omega
 · omega
 · omega
 · omega
 · exact hp b h
set_option maxRecDepth 100000 in
set_option maxHeartbeats 8000000 in
theorem awake_any (w : World) (hT : Glob w) : Calls Tryz.prog 6 #[] w (Tells true w) := by
 have hput := mput_any 9 0 0 0 0 0 0 0 0 0 0 ⟨#[]⟩ ⟨#[]⟩ 0 none 0 0 0 0 2 [] w (Rs.nil_ w) hT.2 hT.1
 have hput : Calls Tryz.prog 8 #[.agg #[.int .i64 9, .int .i64 0, .int .i64 0, .int .i64 0, .int .i64 0, .int .i64 0, .int .i64 0, .int .i64 0, .int .i64 0, .int .i64 0, .int .i64 0, .string ⟨#[]⟩, .string ⟨#[]⟩, .int .i64 0, .slice none 0 0, .int .i64 0, .int .i64 0, .int .i64 2]] w (PutsMg hello w) := hput
 have HPUT := Lib.hid hput
 have HTK := Lib.hid (fun A n c w' (hb : Below w.heap.size w w') (hr : Rd w' A n c (cs (frame 2 (form (mgIt hello))))) (hn : n ≤ 1000000) => mtake_any (frame 2 (form (mgIt hello))) A n c w' (hT.2.below hb) (hT.1.below hb) hr (frame_lt 2 (by decide) (Cp.form_bytes _ hello_fit)) hn)
 have HCK := Lib.hid (fun w' (hb : Below w.heap.size w w') => mcheck_any 0 0 0 0 0 0 0 0 0 0 0 ⟨#[]⟩ ⟨#[]⟩ 0 none 0 0 0 0 0 [] w' (Rs.nil_ w') (hT.2.below hb))
 clear hput hT
 go_enter Tryz.func6, Tryz.ntmps6
 go_wp2_with fail
 refine HPUT.out.mono ?_
 rintro e w1 ⟨A, n, c, rfl, hr, hb1, _⟩
 rw [hello_right, if_pos rfl] at hr
 have hn : n = 11 := by
  have h := hr.len
  rw [length_cs, length_frame, hello_len] at h
  omega
 subst hn
 rw [hello_chk]
 have htk := HTK.out A 11 c w1 hb1 hr (by decide)
 rw [own_ref, taken_back hello_right hello_fit] at htk
 have HTK2 := Lib.hid htk
 have HB1 := Lib.hid hb1
 clear htk hr hb1 HTK HPUT
 go_wp2_with fail
 refine HTK2.out.mono ?_
 rintro e w2 ⟨V, k, c2, rfl, hrs, hb2⟩
 have hb3 := bel_alloc (bel_trans HB1.out hb2) (.cells #[.int .i64 9, .int .i64 0, .int .i64 0, .int .i64 0, .int .i64 0, .int .i64 0, .int .i64 0, .int .i64 0, .int .i64 0, .int .i64 0, .int .i64 0, .string ⟨#[]⟩, .string ⟨#[]⟩, .int .i64 0, .slice V k c2, .int .i64 0, .int .i64 0, .int .i64 2] 32)
 have hk3 := Blk.new w2 32 #[.int .i64 9, .int .i64 0, .int .i64 0, .int .i64 0, .int .i64 0, .int .i64 0, .int .i64 0, .int .i64 0, .int .i64 0, .int .i64 0, .int .i64 0, .string ⟨#[]⟩, .string ⟨#[]⟩, .int .i64 0, .slice V k c2, .int .i64 0, .int .i64 0, .int .i64 2]
 have hval : (#[.int .i64 hello.kd, .int .i64 hello.id.1, .int .i64 hello.id.2, .int .i64 hello.bl.1, .int .i64 hello.bl.2, .int .i64 hello.tk.1, .int .i64 hello.tk.2, .int .i64 hello.st, .int .i64 hello.cm.kd, .int .i64 hello.cm.cl, .int .i64 hello.cm.sq, .string hello.cm.ky, .string hello.cm.vl, .int .i64 hello.cm.rv, .slice V k c2, .int .i64 hello.at_.sq, .int .i64 hello.at_.tg, .int .i64 hello.vn] : Array Value) = #[.int .i64 9, .int .i64 0, .int .i64 0, .int .i64 0, .int .i64 0, .int .i64 0, .int .i64 0, .int .i64 0, .int .i64 0, .int .i64 0, .int .i64 0, .string ⟨#[]⟩, .string ⟨#[]⟩, .int .i64 0, .slice V k c2, .int .i64 0, .int .i64 0, .int .i64 2] := rfl
 simp only
 rw [hval]
 obtain ⟨W3, hW3⟩ : ∃ W, w2.alloc (.cells #[.int .i64 9, .int .i64 0, .int .i64 0, .int .i64 0, .int .i64 0, .int .i64 0, .int .i64 0, .int .i64 0, .int .i64 0, .int .i64 0, .int .i64 0, .string ⟨#[]⟩, .string ⟨#[]⟩, .int .i64 0, .slice V k c2, .int .i64 0, .int .i64 0, .int .i64 2] 32) = W := ⟨_, rfl⟩
 rw [hW3] at hb3 hk3
 have HW3 := Lib.hid hW3
 have HB3 := Lib.hid hb3
 have y17 := hk3.cell 17
 simp at y17
 clear hb3 hk3 hW3 hrs hb2 HTK2 hval
 go_upto_region 3 with fail
 rw [HW3.out]
 go_wp2_with fail
 have hck := HCK.out _ HB3.out
 rw [zero_chk] at hck
 refine hck.mono ?_
 rintro e w4 ⟨rfl, hb4⟩
 have HB4 := Lib.hid (bel_trans HB3.out hb4)
 clear hb4 hck
 go_wp2_with fail
 go_ret
 exact ⟨rfl, HB4.out⟩
end Go.Proofs.YtjfpfbagckckkaaGreatDoor.Mg
