/-
  The walk of the law CrcSums: it answers true, whatever the parts; what was there stays.
-/
import Derived.Test.YtnlgikaebhiamaaDoorCrcRef
namespace Go.Proofs.YtnlgikaebhiamaaDoor
open Go.RowKit Mem

theorem info5' : (Tryd.prog.info? 5).map (fun i => (i.zero, i.size, i.bytes)) = some (some (.int .u8 0), 1, 1) := by kernel_rfl

def AllRel (w : World) (n : Nat) (ps : List Part) (v i : Value) (wr : World) : Prop :=
  ∃ k : Nat, ∃ V : Option Addr, ∃ cv : Nat, k ≤ n ∧ i = .int .i64 k ∧ v = .slice V (bytes (ps.take k)).length cv ∧
    wr.ownsRow w.heap.size 5 1 (.slice V (bytes (ps.take k)).length cv) (bytes (ps.take k)).length (cs (bytes (ps.take k))) ∧ (bytes (ps.take k)).length ≤ 200 * k ∧ Below w.heap.size w wr

theorem all_next {ps : List Part} {k : Nat} {p : Part} (hp : ps[k]? = some p) : bytes (ps.take (k + 1)) = bytes (ps.take k) ++ p.bs := by
  rw [List.take_add_one, hp, bytes_append]
  simp [bytes]

set_option maxHeartbeats 1000000 in
theorem sums_near (A : Option Addr) (n c : Nat) (ps : List Part) (w : World) (hn : n ≤ 20) (ht : Tab w) (hm : Mat w A n c ps) :
    Calls Tryd.prog 3 #[.slice A n c] w (Tells true w) := by
  obtain ⟨i0, hi, hz0, hz1, hz2⟩ := info_parts info5'
  have lx := hm.row.len
  rw [List.length_map] at lx
  have LX := Lib.hid lx
  have HM := Lib.hid hm
  have HT := Lib.hid ht
  have d0 : decide ((20 : Int) < (n : Int)) = false := by simp; omega
  clear lx hm ht
  go_enter Tryd.func3, Tryd.ntmps3
  go_wp2
  go_loopw [3, 4] (AllRel w n ps) (fun _ i _ => n - (intOf i).toNat)
  case atStart => exact ⟨0, none, 0, Nat.zero_le _, rfl, rfl, World.ownsRow_nil _ _ _ _, Nat.zero_le _, Below.refl _ _⟩
  case round =>
    obtain ⟨k, V, cv, hk, rfl, rfl, hown, hlen, hbe⟩ := hrel
    by_cases hlt : k < n
    · have hM := HM.out.below hbe
      obtain ⟨ad, u, rfl, _, hx, hc⟩ := hM.row.at_ hlt
      rw [List.getElem?_map, Option.map_eq_some_iff] at hx
      obtain ⟨p, hp, rfl⟩ := hx
      obtain ⟨hr1, hr2⟩ := hM.part p (List.mem_of_getElem? hp)
      have hpl := hr1.len
      rw [length_cs] at hpl
      unfold pv at hc
      by_cases hl : p.n ≤ 200
      · have d1 : decide ((200 : Int) < (p.n : Int)) = false := by simp; omega
        have hN := all_next hp
        have HN := Lib.hid hN
        have HR := Lib.hid hr1
        have HO := Lib.hid hown
        have HBE := Lib.hid hbe
        have HPL := Lib.hid hpl
        have hsz := hbe.size
        clear hN hr1 hr2 hown hbe hp hM hpl
        generalize bytes (ps.take k) = bs at HN HO hlen ⊢
        go_wp2_with (at_builtin; refine wpList_append_rd rfl _ _ 24 rfl w.heap.size 5 i0 (.int .u8 0) 1 Tryd.underlying24 hi hz0 hz1 hz2 rfl V bs.length cv _ rfl HO.out p.A p.n p.c (cs p.bs) rfl HR.out (cs_one _) (by unfold maxLen; omega) (by omega) hsz ?_; intro V' c' w' hown' hb')
        refine ⟨⟨k + 1, V', c', by omega, by simp, ?_, ?_, ?_, HBE.out.trans hb'⟩, by simp [intOf]; omega⟩
        · rw [HN.out, List.length_append, HPL.out]
        · rw [HN.out, List.length_append, HPL.out, cs_append]
          exact hown'
        · rw [HN.out, List.length_append, HPL.out]
          omega
      · have d1 : decide ((200 : Int) < (p.n : Int)) = true := by simp; omega
        have ht := HT.out.below hbe
        have HT2 := Lib.hid ht
        have HBE := Lib.hid hbe
        clear hr1 hr2 hown hbe hp hM hpl ht
        go_wp2_with fail
        refine (awake_any _ HT2.out).mono ?_
        rintro e w' ⟨rfl, hb5⟩
        go_wp2_with fail
        go_ret
        exact ⟨rfl, bel_trans HBE.out hb5⟩
    · obtain rfl : k = n := by omega
      rw [List.take_of_length_le (Nat.le_of_eq LX.out)] at hown hlen ⊢
      have ht := HT.out.below hbe
      have hM := HM.out.below hbe
      have hlt2 := bytes_lt hM
      have hrd := Rd.own hown
      have c1 := sum_any A k c ps wr ht hM
      have c2 := ref_any _ _ _ _ wr hrd hlt2
      have c3 := sum_one (g := wr.heap.size) rfl ht hrd hlt2
      have c4 := ref_any _ _ _ _ _ (hrd.alloc (.cells #[.slice V (bytes ps).length cv] 24)) hlt2
      have tend := ht.alloc (.cells #[.slice V (bytes ps).length cv] 24)
      have hend := bel_alloc hbe (.cells #[.slice V (bytes ps).length cv] 24)
      generalize Crc.sum (bytes ps) = SA at c1 c2 c3 c4
      have C1 := Lib.hid c1
      have C2 := Lib.hid c2
      have C3 := Lib.hid c3
      have C4 := Lib.hid c4
      have TE := Lib.hid tend
      have HE := Lib.hid hend
      clear c1 c2 c3 c4 tend hend ht hM hlt2 hrd hown hbe
      go_wp2_with fail
      refine C1.out.mono ?_
      rintro e w' ⟨rfl, rfl⟩
      go_wp2_with fail
      refine C2.out.mono ?_
      rintro e w' ⟨rfl, rfl⟩
      go_wp2_with fail
      refine C3.out.mono ?_
      rintro e w' ⟨rfl, rfl⟩
      go_wp2_with fail
      refine C4.out.mono ?_
      rintro e w' ⟨rfl, rfl⟩
      go_wp2_with fail
      refine (awake_any _ TE.out).mono ?_
      rintro e w' ⟨rfl, hb5⟩
      go_wp2_with fail
      go_ret
      exact ⟨rfl, bel_trans HE.out hb5⟩

set_option maxHeartbeats 1000000 in
theorem sums_far (A : Option Addr) (n c : Nat) (w : World) (hn : 20 < n) (ht : Tab w) :
    Calls Tryd.prog 3 #[.slice A n c] w (Tells true w) := by
  have HT := Lib.hid ht
  have d0 : decide ((20 : Int) < (n : Int)) = true := by simp; omega
  clear ht
  go_enter Tryd.func3, Tryd.ntmps3
  go_wp2_with fail
  refine (awake_any _ HT.out).mono ?_
  rintro e w' ⟨rfl, hb5⟩
  go_wp2_with fail
  go_ret
  exact ⟨rfl, hb5⟩

theorem crcSums_walk (A : Option Addr) (n c : Nat) (ps : List Part) (w : World) (ht : Tab w) (hm : Mat w A n c ps) :
    Calls Tryd.prog 3 #[.slice A n c] w fun e w' => e = .returned (.bool true) ∧ Below w.heap.size w w' := by
  by_cases hn : n ≤ 20
  · exact sums_near A n c ps w hn ht hm
  · exact sums_far A n c w (by omega) ht
end Go.Proofs.YtnlgikaebhiamaaDoor
