/-
  The walk of the law CrcParts: it answers true, whatever the bytes and the cuts; what was there stays.
-/
import Derived.Test.YtnlgikaebhiamaaDoorCrcSum
import Derived.Test.YtnlgikaebhiamaaDoorPick
import Derived.Deep.RegionWith
namespace Go.Proofs.YtnlgikaebhiamaaDoor
open Go.RowKit Mem

/-- In W a row of m parts lies at block g, that hold the bytes b together; the table is there. -/
structure RowIs (W : World) (g m : Nat) (b : List Nat) : Prop where
  tab : Tab W
  row : ∃ ps, Mat W (some ⟨g, 0, none⟩) m m ps ∧ bytes ps = b
theorem sum_row {W : World} {g m : Nat} {b : List Nat} (h : RowIs W g m b) : Calls Tryd.prog 8 #[.slice (some ⟨g, 0, none⟩) m m] W (SumIs (Crc.sum b) W) := by
  obtain ⟨ht, ps, hm, rfl⟩ := h
  exact sum_any _ _ _ _ _ ht hm

theorem row_mk {W : World} {g m : Nat} {ps : List Part} (hl : ps.length = m) (hm : m ≤ maxLen) (hm0 : 0 < m) (hc : ∀ j u, (ps.map pv)[j]? = some u → W.cell? ⟨g, j, none⟩ = some u) : Rd W (some ⟨g, 0, none⟩) m m (ps.map pv) := by
  refine ⟨by rw [List.length_map, hl], Nat.le_refl _, hm, (fun e => by cases e), fun _ => ⟨_, rfl, ?_, fun j u hu => ?_⟩⟩
  · have h0 : (ps.map pv)[0]? = some ((ps.map pv)[0]'(by rw [List.length_map]; omega)) := List.getElem?_eq_getElem _
    exact World.block_lt_of_cell? W _ (hc 0 _ h0)
  · rw [Addr.add_lit, Nat.zero_add]
    exact hc j u hu

section
variable {w W : World} {A : Option Addr} {n c i k g : Nat} {b : List Nat}
theorem row1 (ht : Tab w) (hr : Rd w A n c (cs b)) (hb : ∀ x ∈ b, x < 256) (hB : Below w.heap.size w W) (h0 : W.cell? ⟨g, 0, none⟩ = some (.slice A n c)) : RowIs W g 1 b := by
  refine ⟨ht.below hB, [⟨A, n, c, b⟩], ⟨row_mk rfl (by simp [maxLen]) (by decide) ?_, ?_⟩, by simp [bytes]⟩
  · intro j u hu
    rcases j with _ | j
    · simp [pv] at hu; subst hu; exact h0
    · simp at hu
  · intro p hp
    simp at hp
    subst hp
    exact ⟨hr.below hB, hb⟩
theorem row2 (ht : Tab w) (hr : Rd w A n c (cs b)) (hb : ∀ x ∈ b, x < 256) (hi : i ≤ n) (hB : Below w.heap.size w W) (h0 : W.cell? ⟨g, 0, none⟩ = some (.slice A i c)) (h1 : W.cell? ⟨g, 1, none⟩ = some (.slice (cutA A c i) (n - i) (c - i))) : RowIs W g 2 b := by
  refine ⟨ht.below hB, [⟨A, i, c, b.take i⟩, ⟨cutA A c i, n - i, c - i, b.drop i⟩], ⟨row_mk rfl (by simp [maxLen]) (by decide) ?_, ?_⟩, by simp [bytes]⟩
  · intro j u hu
    rcases j with _ | _ | j
    · simp [pv] at hu; subst hu; exact h0
    · simp [pv] at hu; subst hu; exact h1
    · simp at hu
  · have hr' := hr.below hB
    have h2 := hr'.take hi
    have h3 := hr'.cut hi
    rw [cs_take] at h2
    rw [cs_drop] at h3
    intro p hp
    simp at hp
    rcases hp with rfl | rfl
    · exact ⟨h2, fun x hx => hb x (List.mem_of_mem_take hx)⟩
    · exact ⟨h3, fun x hx => hb x (List.mem_of_mem_drop hx)⟩
theorem row4 (ht : Tab w) (hr : Rd w A n c (cs b)) (hb : ∀ x ∈ b, x < 256) (hk : k ≤ i) (hi : i ≤ n) (hB : Below w.heap.size w W) (h0 : W.cell? ⟨g, 0, none⟩ = some (.slice A k c)) (h1 : W.cell? ⟨g, 1, none⟩ = some (.slice (cutA A c k) (i - k) (c - k)))
    (h2 : W.cell? ⟨g, 2, none⟩ = some (.slice none 0 0)) (h3 : W.cell? ⟨g, 3, none⟩ = some (.slice (cutA A c i) (n - i) (c - i))) : RowIs W g 4 b := by
  refine ⟨ht.below hB, [⟨A, k, c, b.take k⟩, ⟨cutA A c k, i - k, c - k, (b.take i).drop k⟩, ⟨none, 0, 0, []⟩, ⟨cutA A c i, n - i, c - i, b.drop i⟩], ⟨row_mk rfl (by simp [maxLen]) (by decide) ?_, ?_⟩, ?_⟩
  · intro j u hu
    rcases j with _ | _ | _ | _ | j
    · simp [pv] at hu; subst hu; exact h0
    · simp [pv] at hu; subst hu; exact h1
    · simp [pv] at hu; subst hu; exact h2
    · simp [pv] at hu; subst hu; exact h3
    · simp at hu
  · have hr' := hr.below hB
    have g1 := hr'.take (show k ≤ n by omega)
    have g2 := (hr'.take hi).cut hk
    have g3 := hr'.cut hi
    rw [cs_take] at g1 g2
    rw [cs_drop] at g2 g3
    intro p hp
    simp at hp
    rcases hp with rfl | rfl | rfl | rfl
    · exact ⟨g1, fun x hx => hb x (List.mem_of_mem_take hx)⟩
    · exact ⟨g2, fun x hx => hb x (List.mem_of_mem_take (List.mem_of_mem_drop hx))⟩
    · exact ⟨Rd.nil_ _, by simp⟩
    · exact ⟨g3, fun x hx => hb x (List.mem_of_mem_drop hx)⟩
  · have e1 : b.take k ++ (b.take i).drop k = b.take i := by
      have : b.take k = (b.take i).take k := by rw [List.take_take, Nat.min_eq_left hk]
      rw [this, List.take_append_drop]
    show b.take k ++ ((b.take i).drop k ++ ([] ++ (b.drop i ++ []))) = b
    rw [List.nil_append, List.append_nil, ← List.append_assoc, e1, List.take_append_drop]
end

theorem cell_new {w : World} {C : Array Value} {t : TypeId} {g j : Nat} {v : Value} (hg : g = w.heap.size) (hv : C[j]? = some v) : (w.alloc (.cells C t)).cell? ⟨g, j, none⟩ = some v := by
  subst hg
  rw [cell_of_row _ _ _ _ _ _ (heap_alloc_new w _)]
  exact hv
theorem cell_old {w : World} {o : Obj} {g j : Nat} {v : Value} (hg : g < w.heap.size) (h : w.cell? ⟨g, j, none⟩ = some v) : (w.alloc o).cell? ⟨g, j, none⟩ = some v := (World.cell?_alloc_lt w o _ hg).trans h
theorem cell_drew {w : World} {p : Addr} {v : Value} (h : w.cell? p = some v) : w.drew.cell? p = some v := h

theorem run_high {P : Program} (t : TypeId) (ht : P.underlying t = some (.slice (P.elem t))) (hsz : ∀ w : World, (sizeOf (P.elem t)).run P w = .ok 1 w) (A : Option Addr) (n c i : Nat) (hi : i ≤ c) (w : World) :
    (Instr.slice t (.slice A n c) none (some (.int .i64 (i : Int))) none).run P w = .ok (.slice A i c) w := by
  have h0 : (fun x : Addr => x.add 0) = id := by funext x; simp [Addr.add]
  rw [run_slice_h w t A n c ht .i64 (i : Int) (by omega) (by omega), hsz]
  simp [Result.andThen, sliced, h0]
theorem run_mid {P : Program} (t : TypeId) (ht : P.underlying t = some (.slice (P.elem t))) (hsz : ∀ w : World, (sizeOf (P.elem t)).run P w = .ok 1 w) (A : Option Addr) (n c k i : Nat) (hk : k ≤ i) (hi : i ≤ c) (w : World) :
    (Instr.slice t (.slice A n c) (some (.int .i64 (k : Int))) (some (.int .i64 (i : Int))) none).run P w = .ok (.slice (cutA A c k) (i - k) (c - k)) w := by
  rw [run_slice_lh w t A n c ht .i64 .i64 (k : Int) (i : Int) (by omega) (by omega) (by omega), hsz]
  simp [Result.andThen, sliced, cutA]

set_option maxHeartbeats 8000000 in
theorem parts_near (A : Option Addr) (n c i k : Nat) (x y : Int) (b : List Nat) (w : World) (hn : n ≤ 1000) (hp1 : pick x ((n : Int) + 1) = (i : Int)) (hp2 : pick y ((i : Int) + 1) = (k : Int)) (hi : i ≤ n) (hk : k ≤ i)
    (ht : Tab w) (hr : Rd w A n c (cs b)) (lb : ∀ x ∈ b, x < 256) :
    Calls Tryd.prog 6 #[.slice A n c, .int .i64 x, .int .i64 y] w (Tells true w) := by
  have hc := hr.le
  have hpa := fun W => pick_any x ((n : Int) + 1) W (by omega) (by omega)
  have hpb := fun W => pick_any y ((i : Int) + 1) W (by omega) (by omega)
  rw [hp1] at hpa
  rw [hp2] at hpb
  have HPA := Lib.hid hpa
  have HPB := Lib.hid hpb
  have s1 := run_high (P := Tryd.prog) 24 Tryd.underlying24 (fun _ => Tryd.sizeOf5 _) A n c i (by omega)
  have s2 := run_cut (P := Tryd.prog) 24 Tryd.underlying24 (fun _ => Tryd.sizeOf5 _) A n c i hi
  have s3 := run_high (P := Tryd.prog) 24 Tryd.underlying24 (fun _ => Tryd.sizeOf5 _) A n c k (by omega)
  have s4 := run_mid (P := Tryd.prog) 24 Tryd.underlying24 (fun _ => Tryd.sizeOf5 _) A n c k i hk (by omega)
  have HR := Lib.hid hr
  have HT := Lib.hid ht
  have LB := Lib.hid lb
  have d0 : decide ((1000 : Int) < (n : Int)) = false := by simp; omega
  clear hr ht lb hpa hpb hp1 hp2
  go_enter Tryd.func6, Tryd.ntmps6
  go_wp2_with fail
  refine (HPA.out _).mono ?_
  rintro e w' ⟨rfl, rfl⟩
  go_wp2_with fail
  refine (HPB.out _).mono ?_
  rintro e w' ⟨rfl, rfl⟩
  go_wp2_with fail
  clear HPA HPB d0
  refine wp_region_any (by kernel_rfl) ?_
  change wpAny _ _ _ _ _ _ _ (World.drew _)
  refine wpAny_take (i := 0) (v := .slice A n c) rfl (by kernel_rfl) (by kernel_rfl) (by kernel_rfl) (fun _ _ _ h => h) (Or.inl ⟨by kernel_rfl, fun w => by go_simp⟩) ?_
  refine wpAny_take (i := 1) (v := .int .i64 (i : Int)) rfl (by kernel_rfl) (by kernel_rfl) (by kernel_rfl) (fun _ _ _ h => h) (Or.inl ⟨by kernel_rfl, fun w => by go_simp⟩) ?_
  refine wpAny_take (i := 2) (v := .slice A i c) rfl (by kernel_rfl) (by kernel_rfl) (by kernel_rfl) (fun _ _ _ h => h) (Or.inl ⟨by kernel_rfl, fun w => by go_simp⟩) ?_
  refine wpAny_take (i := 3) (v := .slice A n c) rfl (by kernel_rfl) (by kernel_rfl) (by kernel_rfl) (fun _ _ _ h => h) (Or.inl ⟨by kernel_rfl, fun w => by go_simp⟩) ?_
  refine wpAny_take (i := 4) (v := .int .i64 (i : Int)) rfl (by kernel_rfl) (by kernel_rfl) (by kernel_rfl) (fun _ _ _ h => h) (Or.inl ⟨by kernel_rfl, fun w => by go_simp⟩) ?_
  refine wpAny_take (i := 5) (v := .slice (cutA A c i) (n - i) (c - i)) rfl (by kernel_rfl) (by kernel_rfl) (by kernel_rfl) (fun _ _ _ h => h) (Or.inl ⟨by kernel_rfl, fun w => by go_simp⟩) ?_
  refine wpAny_take (i := 8) (v := .slice A n c) rfl (by kernel_rfl) (by kernel_rfl) (by kernel_rfl) (fun _ _ _ h => h) (Or.inl ⟨by kernel_rfl, fun w => by go_simp⟩) ?_
  refine wpAny_ready (rs := [6, 9]) (by kernel_rfl) (by simp) ?_
  refine AllReady.cons rfl (fun K hK => ?_) (AllReady.cons rfl (fun K hK => ?_) AllReady.nil)
  · skip
    go_simp
    refine hK _ _ ?_
    clear hK K
    refine wpAny_ready (rs := [7, 9]) (by kernel_rfl) (by simp) ?_
    refine AllReady.cons rfl (fun K hK => ?_) (AllReady.cons rfl (fun K hK => ?_) AllReady.nil)
    · skip
      go_simp
      refine (sum_row (b := b) ?_).mono ?_
      · exact row2 HT.out HR.out LB.out hi (by repeat (with_reducible (first | exact Below.refl _ _ | apply Below.drew | apply bel_alloc))) (by repeat (with_reducible (first | apply cell_drew | (refine cell_new ?_ ?_ <;> (simp; done)) | (refine cell_old ?hlt ?_; case hlt => (simp; done))))) (by repeat (with_reducible (first | apply cell_drew | (refine cell_new ?_ ?_ <;> (simp; done)) | (refine cell_old ?hlt ?_; case hlt => (simp; done)))))
      rintro e w' ⟨rfl, rfl⟩
      refine hK _ _ ?_
      clear hK K
      refine wpAny_ready (rs := [9]) (by kernel_rfl) (by simp) ?_
      refine AllReady.cons rfl (fun K hK => ?_) AllReady.nil
      go_simp
      refine hK _ _ ?_
      clear hK K
      refine wpAny_ready (rs := [10]) (by kernel_rfl) (by simp) ?_
      refine AllReady.cons rfl (fun K hK => ?_) AllReady.nil
      go_simp
      refine (sum_row (b := b) ?_).mono ?_
      · exact row1 HT.out HR.out LB.out (by repeat (with_reducible (first | exact Below.refl _ _ | apply Below.drew | apply bel_alloc))) (by repeat (with_reducible (first | apply cell_drew | (refine cell_new ?_ ?_ <;> (simp; done)) | (refine cell_old ?hlt ?_; case hlt => (simp; done)))))
      rintro e w' ⟨rfl, rfl⟩
      refine hK _ _ ?_
      clear hK K
      refine wpAny_take (i := 11) (v := .bool true) rfl (by kernel_rfl) (by kernel_rfl) (by kernel_rfl) (fun _ _ _ h => h) (Or.inl ⟨by kernel_rfl, fun w => by go_simp⟩) ?_
      refine wpAny_take (i := 12) (v := .bool true) rfl (by kernel_rfl) (by kernel_rfl) (by kernel_rfl) (fun _ _ _ h => h) (Or.inl ⟨by kernel_rfl, fun w => by go_simp⟩) ?_
      refine wpAny_take (i := 13) (v := .slice A n c) rfl (by kernel_rfl) (by kernel_rfl) (by kernel_rfl) (fun _ _ _ h => h) (Or.inl ⟨by kernel_rfl, fun w => by go_simp⟩) ?_
      refine wpAny_take (i := 14) (v := .int .i64 (k : Int)) rfl (by kernel_rfl) (by kernel_rfl) (by kernel_rfl) (fun _ _ _ h => h) (Or.inl ⟨by kernel_rfl, fun w => by go_simp⟩) ?_
      refine wpAny_take (i := 15) (v := .slice A k c) rfl (by kernel_rfl) (by kernel_rfl) (by kernel_rfl) (fun _ _ _ h => h) (Or.inl ⟨by kernel_rfl, fun w => by go_simp⟩) ?_
      refine wpAny_take (i := 16) (v := .slice A n c) rfl (by kernel_rfl) (by kernel_rfl) (by kernel_rfl) (fun _ _ _ h => h) (Or.inl ⟨by kernel_rfl, fun w => by go_simp⟩) ?_
      refine wpAny_take (i := 17) (v := .int .i64 (k : Int)) rfl (by kernel_rfl) (by kernel_rfl) (by kernel_rfl) (fun _ _ _ h => h) (Or.inl ⟨by kernel_rfl, fun w => by go_simp⟩) ?_
      refine wpAny_take (i := 18) (v := .int .i64 (i : Int)) rfl (by kernel_rfl) (by kernel_rfl) (by kernel_rfl) (fun _ _ _ h => h) (Or.inl ⟨by kernel_rfl, fun w => by go_simp⟩) ?_
      refine wpAny_take (i := 19) (v := .slice (cutA A c k) (i - k) (c - k)) rfl (by kernel_rfl) (by kernel_rfl) (by kernel_rfl) (fun _ _ _ h => h) (Or.inl ⟨by kernel_rfl, fun w => by go_simp⟩) ?_
      refine wpAny_take (i := 20) (v := .slice A n c) rfl (by kernel_rfl) (by kernel_rfl) (by kernel_rfl) (fun _ _ _ h => h) (Or.inl ⟨by kernel_rfl, fun w => by go_simp⟩) ?_
      refine wpAny_take (i := 21) (v := .int .i64 (i : Int)) rfl (by kernel_rfl) (by kernel_rfl) (by kernel_rfl) (fun _ _ _ h => h) (Or.inl ⟨by kernel_rfl, fun w => by go_simp⟩) ?_
      refine wpAny_take (i := 22) (v := .slice (cutA A c i) (n - i) (c - i)) rfl (by kernel_rfl) (by kernel_rfl) (by kernel_rfl) (fun _ _ _ h => h) (Or.inl ⟨by kernel_rfl, fun w => by go_simp⟩) ?_
      refine wpAny_take (i := 25) (v := .slice A n c) rfl (by kernel_rfl) (by kernel_rfl) (by kernel_rfl) (fun _ _ _ h => h) (Or.inl ⟨by kernel_rfl, fun w => by go_simp⟩) ?_
      refine wpAny_ready (rs := [23, 26]) (by kernel_rfl) (by simp) ?_
      refine AllReady.cons rfl (fun K hK => ?_) (AllReady.cons rfl (fun K hK => ?_) AllReady.nil)
      · skip
        go_simp
        refine hK _ _ ?_
        clear hK K
        refine wpAny_ready (rs := [24, 26]) (by kernel_rfl) (by simp) ?_
        refine AllReady.cons rfl (fun K hK => ?_) (AllReady.cons rfl (fun K hK => ?_) AllReady.nil)
        · skip
          go_simp
          refine (sum_row (b := b) ?_).mono ?_
          · exact row4 HT.out HR.out LB.out hk hi (by repeat (with_reducible (first | exact Below.refl _ _ | apply Below.drew | apply bel_alloc))) (by repeat (with_reducible (first | apply cell_drew | (refine cell_new ?_ ?_ <;> (simp; done)) | (refine cell_old ?hlt ?_; case hlt => (simp; done))))) (by repeat (with_reducible (first | apply cell_drew | (refine cell_new ?_ ?_ <;> (simp; done)) | (refine cell_old ?hlt ?_; case hlt => (simp; done))))) (by repeat (with_reducible (first | apply cell_drew | (refine cell_new ?_ ?_ <;> (simp; done)) | (refine cell_old ?hlt ?_; case hlt => (simp; done))))) (by repeat (with_reducible (first | apply cell_drew | (refine cell_new ?_ ?_ <;> (simp; done)) | (refine cell_old ?hlt ?_; case hlt => (simp; done)))))
          rintro e w' ⟨rfl, rfl⟩
          refine hK _ _ ?_
          clear hK K
          refine wpAny_ready (rs := [26]) (by kernel_rfl) (by simp) ?_
          refine AllReady.cons rfl (fun K hK => ?_) AllReady.nil
          go_simp
          refine hK _ _ ?_
          clear hK K
          refine wpAny_ready (rs := [27]) (by kernel_rfl) (by simp) ?_
          refine AllReady.cons rfl (fun K hK => ?_) AllReady.nil
          go_simp
          refine (sum_row (b := b) ?_).mono ?_
          · exact row1 HT.out HR.out LB.out (by repeat (with_reducible (first | exact Below.refl _ _ | apply Below.drew | apply bel_alloc))) (by repeat (with_reducible (first | apply cell_drew | (refine cell_new ?_ ?_ <;> (simp; done)) | (refine cell_old ?hlt ?_; case hlt => (simp; done)))))
          rintro e w' ⟨rfl, rfl⟩
          refine hK _ _ ?_
          clear hK K
          refine wpAny_take (i := 28) (v := .bool true) rfl (by kernel_rfl) (by kernel_rfl) (by kernel_rfl) (fun _ _ _ h => h) (Or.inl ⟨by kernel_rfl, fun w => by go_simp⟩) ?_
          refine wpAny_take (i := 29) (v := .bool true) rfl (by kernel_rfl) (by kernel_rfl) (by kernel_rfl) (fun _ _ _ h => h) (Or.inl ⟨by kernel_rfl, fun w => by go_simp⟩) ?_
          refine wpAny_take (i := 30) (v := .bool true) rfl (by kernel_rfl) (by kernel_rfl) (by kernel_rfl) (fun _ _ _ h => h) (Or.inl ⟨by kernel_rfl, fun w => by go_simp⟩) ?_
          refine wpAny_ready (rs := [31]) (by kernel_rfl) (by simp) ?_
          refine AllReady.cons rfl (fun K hK => ?_) AllReady.nil
          go_simp
          refine (awake_any _ ?_).mono ?_
          · exact HT.out.below (by repeat (with_reducible (first | exact Below.refl _ _ | apply Below.drew | apply bel_alloc)))
          rintro e w' ⟨rfl, hb5⟩
          refine hK _ _ ?_
          clear hK K
          refine wpAny_take (i := 32) (v := .bool true) rfl (by kernel_rfl) (by kernel_rfl) (by kernel_rfl) (fun _ _ _ h => h) (Or.inl ⟨by kernel_rfl, fun w => by go_simp⟩) ?_
          refine wpAny_take (i := 33) (v := .bool true) rfl (by kernel_rfl) (by kernel_rfl) (by kernel_rfl) (fun _ _ _ h => h) (Or.inl ⟨by kernel_rfl, fun w => by go_simp⟩) ?_
          refine wpAny_done (by kernel_rfl) ?_ _
          go_wp2
          go_ret
          exact ⟨rfl, bel_trans (by repeat (with_reducible (first | exact Below.refl _ _ | apply Below.drew | apply bel_alloc))) hb5⟩
        · skip
          go_simp
          refine hK _ _ ?_
          clear hK K
          refine wpAny_ready (rs := [24]) (by kernel_rfl) (by simp) ?_
          refine AllReady.cons rfl (fun K hK => ?_) AllReady.nil
          go_simp
          refine (sum_row (b := b) ?_).mono ?_
          · exact row4 HT.out HR.out LB.out hk hi (by repeat (with_reducible (first | exact Below.refl _ _ | apply Below.drew | apply bel_alloc))) (by repeat (with_reducible (first | apply cell_drew | (refine cell_new ?_ ?_ <;> (simp; done)) | (refine cell_old ?hlt ?_; case hlt => (simp; done))))) (by repeat (with_reducible (first | apply cell_drew | (refine cell_new ?_ ?_ <;> (simp; done)) | (refine cell_old ?hlt ?_; case hlt => (simp; done))))) (by repeat (with_reducible (first | apply cell_drew | (refine cell_new ?_ ?_ <;> (simp; done)) | (refine cell_old ?hlt ?_; case hlt => (simp; done))))) (by repeat (with_reducible (first | apply cell_drew | (refine cell_new ?_ ?_ <;> (simp; done)) | (refine cell_old ?hlt ?_; case hlt => (simp; done)))))
          rintro e w' ⟨rfl, rfl⟩
          refine hK _ _ ?_
          clear hK K
          refine wpAny_ready (rs := [27]) (by kernel_rfl) (by simp) ?_
          refine AllReady.cons rfl (fun K hK => ?_) AllReady.nil
          go_simp
          refine (sum_row (b := b) ?_).mono ?_
          · exact row1 HT.out HR.out LB.out (by repeat (with_reducible (first | exact Below.refl _ _ | apply Below.drew | apply bel_alloc))) (by repeat (with_reducible (first | apply cell_drew | (refine cell_new ?_ ?_ <;> (simp; done)) | (refine cell_old ?hlt ?_; case hlt => (simp; done)))))
          rintro e w' ⟨rfl, rfl⟩
          refine hK _ _ ?_
          clear hK K
          refine wpAny_take (i := 28) (v := .bool true) rfl (by kernel_rfl) (by kernel_rfl) (by kernel_rfl) (fun _ _ _ h => h) (Or.inl ⟨by kernel_rfl, fun w => by go_simp⟩) ?_
          refine wpAny_take (i := 29) (v := .bool true) rfl (by kernel_rfl) (by kernel_rfl) (by kernel_rfl) (fun _ _ _ h => h) (Or.inl ⟨by kernel_rfl, fun w => by go_simp⟩) ?_
          refine wpAny_take (i := 30) (v := .bool true) rfl (by kernel_rfl) (by kernel_rfl) (by kernel_rfl) (fun _ _ _ h => h) (Or.inl ⟨by kernel_rfl, fun w => by go_simp⟩) ?_
          refine wpAny_ready (rs := [31]) (by kernel_rfl) (by simp) ?_
          refine AllReady.cons rfl (fun K hK => ?_) AllReady.nil
          go_simp
          refine (awake_any _ ?_).mono ?_
          · exact HT.out.below (by repeat (with_reducible (first | exact Below.refl _ _ | apply Below.drew | apply bel_alloc)))
          rintro e w' ⟨rfl, hb5⟩
          refine hK _ _ ?_
          clear hK K
          refine wpAny_take (i := 32) (v := .bool true) rfl (by kernel_rfl) (by kernel_rfl) (by kernel_rfl) (fun _ _ _ h => h) (Or.inl ⟨by kernel_rfl, fun w => by go_simp⟩) ?_
          refine wpAny_take (i := 33) (v := .bool true) rfl (by kernel_rfl) (by kernel_rfl) (by kernel_rfl) (fun _ _ _ h => h) (Or.inl ⟨by kernel_rfl, fun w => by go_simp⟩) ?_
          refine wpAny_done (by kernel_rfl) ?_ _
          go_wp2
          go_ret
          exact ⟨rfl, bel_trans (by repeat (with_reducible (first | exact Below.refl _ _ | apply Below.drew | apply bel_alloc))) hb5⟩
      · skip
        go_simp
        refine hK _ _ ?_
        clear hK K
        refine wpAny_ready (rs := [23]) (by kernel_rfl) (by simp) ?_
        refine AllReady.cons rfl (fun K hK => ?_) AllReady.nil
        go_simp
        refine hK _ _ ?_
        clear hK K
        refine wpAny_ready (rs := [24]) (by kernel_rfl) (by simp) ?_
        refine AllReady.cons rfl (fun K hK => ?_) AllReady.nil
        go_simp
        refine (sum_row (b := b) ?_).mono ?_
        · exact row4 HT.out HR.out LB.out hk hi (by repeat (with_reducible (first | exact Below.refl _ _ | apply Below.drew | apply bel_alloc))) (by repeat (with_reducible (first | apply cell_drew | (refine cell_new ?_ ?_ <;> (simp; done)) | (refine cell_old ?hlt ?_; case hlt => (simp; done))))) (by repeat (with_reducible (first | apply cell_drew | (refine cell_new ?_ ?_ <;> (simp; done)) | (refine cell_old ?hlt ?_; case hlt => (simp; done))))) (by repeat (with_reducible (first | apply cell_drew | (refine cell_new ?_ ?_ <;> (simp; done)) | (refine cell_old ?hlt ?_; case hlt => (simp; done))))) (by repeat (with_reducible (first | apply cell_drew | (refine cell_new ?_ ?_ <;> (simp; done)) | (refine cell_old ?hlt ?_; case hlt => (simp; done)))))
        rintro e w' ⟨rfl, rfl⟩
        refine hK _ _ ?_
        clear hK K
        refine wpAny_ready (rs := [27]) (by kernel_rfl) (by simp) ?_
        refine AllReady.cons rfl (fun K hK => ?_) AllReady.nil
        go_simp
        refine (sum_row (b := b) ?_).mono ?_
        · exact row1 HT.out HR.out LB.out (by repeat (with_reducible (first | exact Below.refl _ _ | apply Below.drew | apply bel_alloc))) (by repeat (with_reducible (first | apply cell_drew | (refine cell_new ?_ ?_ <;> (simp; done)) | (refine cell_old ?hlt ?_; case hlt => (simp; done)))))
        rintro e w' ⟨rfl, rfl⟩
        refine hK _ _ ?_
        clear hK K
        refine wpAny_take (i := 28) (v := .bool true) rfl (by kernel_rfl) (by kernel_rfl) (by kernel_rfl) (fun _ _ _ h => h) (Or.inl ⟨by kernel_rfl, fun w => by go_simp⟩) ?_
        refine wpAny_take (i := 29) (v := .bool true) rfl (by kernel_rfl) (by kernel_rfl) (by kernel_rfl) (fun _ _ _ h => h) (Or.inl ⟨by kernel_rfl, fun w => by go_simp⟩) ?_
        refine wpAny_take (i := 30) (v := .bool true) rfl (by kernel_rfl) (by kernel_rfl) (by kernel_rfl) (fun _ _ _ h => h) (Or.inl ⟨by kernel_rfl, fun w => by go_simp⟩) ?_
        refine wpAny_ready (rs := [31]) (by kernel_rfl) (by simp) ?_
        refine AllReady.cons rfl (fun K hK => ?_) AllReady.nil
        go_simp
        refine (awake_any _ ?_).mono ?_
        · exact HT.out.below (by repeat (with_reducible (first | exact Below.refl _ _ | apply Below.drew | apply bel_alloc)))
        rintro e w' ⟨rfl, hb5⟩
        refine hK _ _ ?_
        clear hK K
        refine wpAny_take (i := 32) (v := .bool true) rfl (by kernel_rfl) (by kernel_rfl) (by kernel_rfl) (fun _ _ _ h => h) (Or.inl ⟨by kernel_rfl, fun w => by go_simp⟩) ?_
        refine wpAny_take (i := 33) (v := .bool true) rfl (by kernel_rfl) (by kernel_rfl) (by kernel_rfl) (fun _ _ _ h => h) (Or.inl ⟨by kernel_rfl, fun w => by go_simp⟩) ?_
        refine wpAny_done (by kernel_rfl) ?_ _
        go_wp2
        go_ret
        exact ⟨rfl, bel_trans (by repeat (with_reducible (first | exact Below.refl _ _ | apply Below.drew | apply bel_alloc))) hb5⟩
    · skip
      go_simp
      refine hK _ _ ?_
      clear hK K
      refine wpAny_ready (rs := [7]) (by kernel_rfl) (by simp) ?_
      refine AllReady.cons rfl (fun K hK => ?_) AllReady.nil
      go_simp
      refine (sum_row (b := b) ?_).mono ?_
      · exact row2 HT.out HR.out LB.out hi (by repeat (with_reducible (first | exact Below.refl _ _ | apply Below.drew | apply bel_alloc))) (by repeat (with_reducible (first | apply cell_drew | (refine cell_new ?_ ?_ <;> (simp; done)) | (refine cell_old ?hlt ?_; case hlt => (simp; done))))) (by repeat (with_reducible (first | apply cell_drew | (refine cell_new ?_ ?_ <;> (simp; done)) | (refine cell_old ?hlt ?_; case hlt => (simp; done)))))
      rintro e w' ⟨rfl, rfl⟩
      refine hK _ _ ?_
      clear hK K
      refine wpAny_ready (rs := [10]) (by kernel_rfl) (by simp) ?_
      refine AllReady.cons rfl (fun K hK => ?_) AllReady.nil
      go_simp
      refine (sum_row (b := b) ?_).mono ?_
      · exact row1 HT.out HR.out LB.out (by repeat (with_reducible (first | exact Below.refl _ _ | apply Below.drew | apply bel_alloc))) (by repeat (with_reducible (first | apply cell_drew | (refine cell_new ?_ ?_ <;> (simp; done)) | (refine cell_old ?hlt ?_; case hlt => (simp; done)))))
      rintro e w' ⟨rfl, rfl⟩
      refine hK _ _ ?_
      clear hK K
      refine wpAny_take (i := 11) (v := .bool true) rfl (by kernel_rfl) (by kernel_rfl) (by kernel_rfl) (fun _ _ _ h => h) (Or.inl ⟨by kernel_rfl, fun w => by go_simp⟩) ?_
      refine wpAny_take (i := 12) (v := .bool true) rfl (by kernel_rfl) (by kernel_rfl) (by kernel_rfl) (fun _ _ _ h => h) (Or.inl ⟨by kernel_rfl, fun w => by go_simp⟩) ?_
      refine wpAny_take (i := 13) (v := .slice A n c) rfl (by kernel_rfl) (by kernel_rfl) (by kernel_rfl) (fun _ _ _ h => h) (Or.inl ⟨by kernel_rfl, fun w => by go_simp⟩) ?_
      refine wpAny_take (i := 14) (v := .int .i64 (k : Int)) rfl (by kernel_rfl) (by kernel_rfl) (by kernel_rfl) (fun _ _ _ h => h) (Or.inl ⟨by kernel_rfl, fun w => by go_simp⟩) ?_
      refine wpAny_take (i := 15) (v := .slice A k c) rfl (by kernel_rfl) (by kernel_rfl) (by kernel_rfl) (fun _ _ _ h => h) (Or.inl ⟨by kernel_rfl, fun w => by go_simp⟩) ?_
      refine wpAny_take (i := 16) (v := .slice A n c) rfl (by kernel_rfl) (by kernel_rfl) (by kernel_rfl) (fun _ _ _ h => h) (Or.inl ⟨by kernel_rfl, fun w => by go_simp⟩) ?_
      refine wpAny_take (i := 17) (v := .int .i64 (k : Int)) rfl (by kernel_rfl) (by kernel_rfl) (by kernel_rfl) (fun _ _ _ h => h) (Or.inl ⟨by kernel_rfl, fun w => by go_simp⟩) ?_
      refine wpAny_take (i := 18) (v := .int .i64 (i : Int)) rfl (by kernel_rfl) (by kernel_rfl) (by kernel_rfl) (fun _ _ _ h => h) (Or.inl ⟨by kernel_rfl, fun w => by go_simp⟩) ?_
      refine wpAny_take (i := 19) (v := .slice (cutA A c k) (i - k) (c - k)) rfl (by kernel_rfl) (by kernel_rfl) (by kernel_rfl) (fun _ _ _ h => h) (Or.inl ⟨by kernel_rfl, fun w => by go_simp⟩) ?_
      refine wpAny_take (i := 20) (v := .slice A n c) rfl (by kernel_rfl) (by kernel_rfl) (by kernel_rfl) (fun _ _ _ h => h) (Or.inl ⟨by kernel_rfl, fun w => by go_simp⟩) ?_
      refine wpAny_take (i := 21) (v := .int .i64 (i : Int)) rfl (by kernel_rfl) (by kernel_rfl) (by kernel_rfl) (fun _ _ _ h => h) (Or.inl ⟨by kernel_rfl, fun w => by go_simp⟩) ?_
      refine wpAny_take (i := 22) (v := .slice (cutA A c i) (n - i) (c - i)) rfl (by kernel_rfl) (by kernel_rfl) (by kernel_rfl) (fun _ _ _ h => h) (Or.inl ⟨by kernel_rfl, fun w => by go_simp⟩) ?_
      refine wpAny_take (i := 25) (v := .slice A n c) rfl (by kernel_rfl) (by kernel_rfl) (by kernel_rfl) (fun _ _ _ h => h) (Or.inl ⟨by kernel_rfl, fun w => by go_simp⟩) ?_
      refine wpAny_ready (rs := [23, 26]) (by kernel_rfl) (by simp) ?_
      refine AllReady.cons rfl (fun K hK => ?_) (AllReady.cons rfl (fun K hK => ?_) AllReady.nil)
      · skip
        go_simp
        refine hK _ _ ?_
        clear hK K
        refine wpAny_ready (rs := [24, 26]) (by kernel_rfl) (by simp) ?_
        refine AllReady.cons rfl (fun K hK => ?_) (AllReady.cons rfl (fun K hK => ?_) AllReady.nil)
        · skip
          go_simp
          refine (sum_row (b := b) ?_).mono ?_
          · exact row4 HT.out HR.out LB.out hk hi (by repeat (with_reducible (first | exact Below.refl _ _ | apply Below.drew | apply bel_alloc))) (by repeat (with_reducible (first | apply cell_drew | (refine cell_new ?_ ?_ <;> (simp; done)) | (refine cell_old ?hlt ?_; case hlt => (simp; done))))) (by repeat (with_reducible (first | apply cell_drew | (refine cell_new ?_ ?_ <;> (simp; done)) | (refine cell_old ?hlt ?_; case hlt => (simp; done))))) (by repeat (with_reducible (first | apply cell_drew | (refine cell_new ?_ ?_ <;> (simp; done)) | (refine cell_old ?hlt ?_; case hlt => (simp; done))))) (by repeat (with_reducible (first | apply cell_drew | (refine cell_new ?_ ?_ <;> (simp; done)) | (refine cell_old ?hlt ?_; case hlt => (simp; done)))))
          rintro e w' ⟨rfl, rfl⟩
          refine hK _ _ ?_
          clear hK K
          refine wpAny_ready (rs := [26]) (by kernel_rfl) (by simp) ?_
          refine AllReady.cons rfl (fun K hK => ?_) AllReady.nil
          go_simp
          refine hK _ _ ?_
          clear hK K
          refine wpAny_ready (rs := [27]) (by kernel_rfl) (by simp) ?_
          refine AllReady.cons rfl (fun K hK => ?_) AllReady.nil
          go_simp
          refine (sum_row (b := b) ?_).mono ?_
          · exact row1 HT.out HR.out LB.out (by repeat (with_reducible (first | exact Below.refl _ _ | apply Below.drew | apply bel_alloc))) (by repeat (with_reducible (first | apply cell_drew | (refine cell_new ?_ ?_ <;> (simp; done)) | (refine cell_old ?hlt ?_; case hlt => (simp; done)))))
          rintro e w' ⟨rfl, rfl⟩
          refine hK _ _ ?_
          clear hK K
          refine wpAny_take (i := 28) (v := .bool true) rfl (by kernel_rfl) (by kernel_rfl) (by kernel_rfl) (fun _ _ _ h => h) (Or.inl ⟨by kernel_rfl, fun w => by go_simp⟩) ?_
          refine wpAny_take (i := 29) (v := .bool true) rfl (by kernel_rfl) (by kernel_rfl) (by kernel_rfl) (fun _ _ _ h => h) (Or.inl ⟨by kernel_rfl, fun w => by go_simp⟩) ?_
          refine wpAny_take (i := 30) (v := .bool true) rfl (by kernel_rfl) (by kernel_rfl) (by kernel_rfl) (fun _ _ _ h => h) (Or.inl ⟨by kernel_rfl, fun w => by go_simp⟩) ?_
          refine wpAny_ready (rs := [31]) (by kernel_rfl) (by simp) ?_
          refine AllReady.cons rfl (fun K hK => ?_) AllReady.nil
          go_simp
          refine (awake_any _ ?_).mono ?_
          · exact HT.out.below (by repeat (with_reducible (first | exact Below.refl _ _ | apply Below.drew | apply bel_alloc)))
          rintro e w' ⟨rfl, hb5⟩
          refine hK _ _ ?_
          clear hK K
          refine wpAny_take (i := 32) (v := .bool true) rfl (by kernel_rfl) (by kernel_rfl) (by kernel_rfl) (fun _ _ _ h => h) (Or.inl ⟨by kernel_rfl, fun w => by go_simp⟩) ?_
          refine wpAny_take (i := 33) (v := .bool true) rfl (by kernel_rfl) (by kernel_rfl) (by kernel_rfl) (fun _ _ _ h => h) (Or.inl ⟨by kernel_rfl, fun w => by go_simp⟩) ?_
          refine wpAny_done (by kernel_rfl) ?_ _
          go_wp2
          go_ret
          exact ⟨rfl, bel_trans (by repeat (with_reducible (first | exact Below.refl _ _ | apply Below.drew | apply bel_alloc))) hb5⟩
        · skip
          go_simp
          refine hK _ _ ?_
          clear hK K
          refine wpAny_ready (rs := [24]) (by kernel_rfl) (by simp) ?_
          refine AllReady.cons rfl (fun K hK => ?_) AllReady.nil
          go_simp
          refine (sum_row (b := b) ?_).mono ?_
          · exact row4 HT.out HR.out LB.out hk hi (by repeat (with_reducible (first | exact Below.refl _ _ | apply Below.drew | apply bel_alloc))) (by repeat (with_reducible (first | apply cell_drew | (refine cell_new ?_ ?_ <;> (simp; done)) | (refine cell_old ?hlt ?_; case hlt => (simp; done))))) (by repeat (with_reducible (first | apply cell_drew | (refine cell_new ?_ ?_ <;> (simp; done)) | (refine cell_old ?hlt ?_; case hlt => (simp; done))))) (by repeat (with_reducible (first | apply cell_drew | (refine cell_new ?_ ?_ <;> (simp; done)) | (refine cell_old ?hlt ?_; case hlt => (simp; done))))) (by repeat (with_reducible (first | apply cell_drew | (refine cell_new ?_ ?_ <;> (simp; done)) | (refine cell_old ?hlt ?_; case hlt => (simp; done)))))
          rintro e w' ⟨rfl, rfl⟩
          refine hK _ _ ?_
          clear hK K
          refine wpAny_ready (rs := [27]) (by kernel_rfl) (by simp) ?_
          refine AllReady.cons rfl (fun K hK => ?_) AllReady.nil
          go_simp
          refine (sum_row (b := b) ?_).mono ?_
          · exact row1 HT.out HR.out LB.out (by repeat (with_reducible (first | exact Below.refl _ _ | apply Below.drew | apply bel_alloc))) (by repeat (with_reducible (first | apply cell_drew | (refine cell_new ?_ ?_ <;> (simp; done)) | (refine cell_old ?hlt ?_; case hlt => (simp; done)))))
          rintro e w' ⟨rfl, rfl⟩
          refine hK _ _ ?_
          clear hK K
          refine wpAny_take (i := 28) (v := .bool true) rfl (by kernel_rfl) (by kernel_rfl) (by kernel_rfl) (fun _ _ _ h => h) (Or.inl ⟨by kernel_rfl, fun w => by go_simp⟩) ?_
          refine wpAny_take (i := 29) (v := .bool true) rfl (by kernel_rfl) (by kernel_rfl) (by kernel_rfl) (fun _ _ _ h => h) (Or.inl ⟨by kernel_rfl, fun w => by go_simp⟩) ?_
          refine wpAny_take (i := 30) (v := .bool true) rfl (by kernel_rfl) (by kernel_rfl) (by kernel_rfl) (fun _ _ _ h => h) (Or.inl ⟨by kernel_rfl, fun w => by go_simp⟩) ?_
          refine wpAny_ready (rs := [31]) (by kernel_rfl) (by simp) ?_
          refine AllReady.cons rfl (fun K hK => ?_) AllReady.nil
          go_simp
          refine (awake_any _ ?_).mono ?_
          · exact HT.out.below (by repeat (with_reducible (first | exact Below.refl _ _ | apply Below.drew | apply bel_alloc)))
          rintro e w' ⟨rfl, hb5⟩
          refine hK _ _ ?_
          clear hK K
          refine wpAny_take (i := 32) (v := .bool true) rfl (by kernel_rfl) (by kernel_rfl) (by kernel_rfl) (fun _ _ _ h => h) (Or.inl ⟨by kernel_rfl, fun w => by go_simp⟩) ?_
          refine wpAny_take (i := 33) (v := .bool true) rfl (by kernel_rfl) (by kernel_rfl) (by kernel_rfl) (fun _ _ _ h => h) (Or.inl ⟨by kernel_rfl, fun w => by go_simp⟩) ?_
          refine wpAny_done (by kernel_rfl) ?_ _
          go_wp2
          go_ret
          exact ⟨rfl, bel_trans (by repeat (with_reducible (first | exact Below.refl _ _ | apply Below.drew | apply bel_alloc))) hb5⟩
      · skip
        go_simp
        refine hK _ _ ?_
        clear hK K
        refine wpAny_ready (rs := [23]) (by kernel_rfl) (by simp) ?_
        refine AllReady.cons rfl (fun K hK => ?_) AllReady.nil
        go_simp
        refine hK _ _ ?_
        clear hK K
        refine wpAny_ready (rs := [24]) (by kernel_rfl) (by simp) ?_
        refine AllReady.cons rfl (fun K hK => ?_) AllReady.nil
        go_simp
        refine (sum_row (b := b) ?_).mono ?_
        · exact row4 HT.out HR.out LB.out hk hi (by repeat (with_reducible (first | exact Below.refl _ _ | apply Below.drew | apply bel_alloc))) (by repeat (with_reducible (first | apply cell_drew | (refine cell_new ?_ ?_ <;> (simp; done)) | (refine cell_old ?hlt ?_; case hlt => (simp; done))))) (by repeat (with_reducible (first | apply cell_drew | (refine cell_new ?_ ?_ <;> (simp; done)) | (refine cell_old ?hlt ?_; case hlt => (simp; done))))) (by repeat (with_reducible (first | apply cell_drew | (refine cell_new ?_ ?_ <;> (simp; done)) | (refine cell_old ?hlt ?_; case hlt => (simp; done))))) (by repeat (with_reducible (first | apply cell_drew | (refine cell_new ?_ ?_ <;> (simp; done)) | (refine cell_old ?hlt ?_; case hlt => (simp; done)))))
        rintro e w' ⟨rfl, rfl⟩
        refine hK _ _ ?_
        clear hK K
        refine wpAny_ready (rs := [27]) (by kernel_rfl) (by simp) ?_
        refine AllReady.cons rfl (fun K hK => ?_) AllReady.nil
        go_simp
        refine (sum_row (b := b) ?_).mono ?_
        · exact row1 HT.out HR.out LB.out (by repeat (with_reducible (first | exact Below.refl _ _ | apply Below.drew | apply bel_alloc))) (by repeat (with_reducible (first | apply cell_drew | (refine cell_new ?_ ?_ <;> (simp; done)) | (refine cell_old ?hlt ?_; case hlt => (simp; done)))))
        rintro e w' ⟨rfl, rfl⟩
        refine hK _ _ ?_
        clear hK K
        refine wpAny_take (i := 28) (v := .bool true) rfl (by kernel_rfl) (by kernel_rfl) (by kernel_rfl) (fun _ _ _ h => h) (Or.inl ⟨by kernel_rfl, fun w => by go_simp⟩) ?_
        refine wpAny_take (i := 29) (v := .bool true) rfl (by kernel_rfl) (by kernel_rfl) (by kernel_rfl) (fun _ _ _ h => h) (Or.inl ⟨by kernel_rfl, fun w => by go_simp⟩) ?_
        refine wpAny_take (i := 30) (v := .bool true) rfl (by kernel_rfl) (by kernel_rfl) (by kernel_rfl) (fun _ _ _ h => h) (Or.inl ⟨by kernel_rfl, fun w => by go_simp⟩) ?_
        refine wpAny_ready (rs := [31]) (by kernel_rfl) (by simp) ?_
        refine AllReady.cons rfl (fun K hK => ?_) AllReady.nil
        go_simp
        refine (awake_any _ ?_).mono ?_
        · exact HT.out.below (by repeat (with_reducible (first | exact Below.refl _ _ | apply Below.drew | apply bel_alloc)))
        rintro e w' ⟨rfl, hb5⟩
        refine hK _ _ ?_
        clear hK K
        refine wpAny_take (i := 32) (v := .bool true) rfl (by kernel_rfl) (by kernel_rfl) (by kernel_rfl) (fun _ _ _ h => h) (Or.inl ⟨by kernel_rfl, fun w => by go_simp⟩) ?_
        refine wpAny_take (i := 33) (v := .bool true) rfl (by kernel_rfl) (by kernel_rfl) (by kernel_rfl) (fun _ _ _ h => h) (Or.inl ⟨by kernel_rfl, fun w => by go_simp⟩) ?_
        refine wpAny_done (by kernel_rfl) ?_ _
        go_wp2
        go_ret
        exact ⟨rfl, bel_trans (by repeat (with_reducible (first | exact Below.refl _ _ | apply Below.drew | apply bel_alloc))) hb5⟩
  · skip
    go_simp
    refine hK _ _ ?_
    clear hK K
    refine wpAny_ready (rs := [6]) (by kernel_rfl) (by simp) ?_
    refine AllReady.cons rfl (fun K hK => ?_) AllReady.nil
    go_simp
    refine hK _ _ ?_
    clear hK K
    refine wpAny_ready (rs := [7]) (by kernel_rfl) (by simp) ?_
    refine AllReady.cons rfl (fun K hK => ?_) AllReady.nil
    go_simp
    refine (sum_row (b := b) ?_).mono ?_
    · exact row2 HT.out HR.out LB.out hi (by repeat (with_reducible (first | exact Below.refl _ _ | apply Below.drew | apply bel_alloc))) (by repeat (with_reducible (first | apply cell_drew | (refine cell_new ?_ ?_ <;> (simp; done)) | (refine cell_old ?hlt ?_; case hlt => (simp; done))))) (by repeat (with_reducible (first | apply cell_drew | (refine cell_new ?_ ?_ <;> (simp; done)) | (refine cell_old ?hlt ?_; case hlt => (simp; done)))))
    rintro e w' ⟨rfl, rfl⟩
    refine hK _ _ ?_
    clear hK K
    refine wpAny_ready (rs := [10]) (by kernel_rfl) (by simp) ?_
    refine AllReady.cons rfl (fun K hK => ?_) AllReady.nil
    go_simp
    refine (sum_row (b := b) ?_).mono ?_
    · exact row1 HT.out HR.out LB.out (by repeat (with_reducible (first | exact Below.refl _ _ | apply Below.drew | apply bel_alloc))) (by repeat (with_reducible (first | apply cell_drew | (refine cell_new ?_ ?_ <;> (simp; done)) | (refine cell_old ?hlt ?_; case hlt => (simp; done)))))
    rintro e w' ⟨rfl, rfl⟩
    refine hK _ _ ?_
    clear hK K
    refine wpAny_take (i := 11) (v := .bool true) rfl (by kernel_rfl) (by kernel_rfl) (by kernel_rfl) (fun _ _ _ h => h) (Or.inl ⟨by kernel_rfl, fun w => by go_simp⟩) ?_
    refine wpAny_take (i := 12) (v := .bool true) rfl (by kernel_rfl) (by kernel_rfl) (by kernel_rfl) (fun _ _ _ h => h) (Or.inl ⟨by kernel_rfl, fun w => by go_simp⟩) ?_
    refine wpAny_take (i := 13) (v := .slice A n c) rfl (by kernel_rfl) (by kernel_rfl) (by kernel_rfl) (fun _ _ _ h => h) (Or.inl ⟨by kernel_rfl, fun w => by go_simp⟩) ?_
    refine wpAny_take (i := 14) (v := .int .i64 (k : Int)) rfl (by kernel_rfl) (by kernel_rfl) (by kernel_rfl) (fun _ _ _ h => h) (Or.inl ⟨by kernel_rfl, fun w => by go_simp⟩) ?_
    refine wpAny_take (i := 15) (v := .slice A k c) rfl (by kernel_rfl) (by kernel_rfl) (by kernel_rfl) (fun _ _ _ h => h) (Or.inl ⟨by kernel_rfl, fun w => by go_simp⟩) ?_
    refine wpAny_take (i := 16) (v := .slice A n c) rfl (by kernel_rfl) (by kernel_rfl) (by kernel_rfl) (fun _ _ _ h => h) (Or.inl ⟨by kernel_rfl, fun w => by go_simp⟩) ?_
    refine wpAny_take (i := 17) (v := .int .i64 (k : Int)) rfl (by kernel_rfl) (by kernel_rfl) (by kernel_rfl) (fun _ _ _ h => h) (Or.inl ⟨by kernel_rfl, fun w => by go_simp⟩) ?_
    refine wpAny_take (i := 18) (v := .int .i64 (i : Int)) rfl (by kernel_rfl) (by kernel_rfl) (by kernel_rfl) (fun _ _ _ h => h) (Or.inl ⟨by kernel_rfl, fun w => by go_simp⟩) ?_
    refine wpAny_take (i := 19) (v := .slice (cutA A c k) (i - k) (c - k)) rfl (by kernel_rfl) (by kernel_rfl) (by kernel_rfl) (fun _ _ _ h => h) (Or.inl ⟨by kernel_rfl, fun w => by go_simp⟩) ?_
    refine wpAny_take (i := 20) (v := .slice A n c) rfl (by kernel_rfl) (by kernel_rfl) (by kernel_rfl) (fun _ _ _ h => h) (Or.inl ⟨by kernel_rfl, fun w => by go_simp⟩) ?_
    refine wpAny_take (i := 21) (v := .int .i64 (i : Int)) rfl (by kernel_rfl) (by kernel_rfl) (by kernel_rfl) (fun _ _ _ h => h) (Or.inl ⟨by kernel_rfl, fun w => by go_simp⟩) ?_
    refine wpAny_take (i := 22) (v := .slice (cutA A c i) (n - i) (c - i)) rfl (by kernel_rfl) (by kernel_rfl) (by kernel_rfl) (fun _ _ _ h => h) (Or.inl ⟨by kernel_rfl, fun w => by go_simp⟩) ?_
    refine wpAny_take (i := 25) (v := .slice A n c) rfl (by kernel_rfl) (by kernel_rfl) (by kernel_rfl) (fun _ _ _ h => h) (Or.inl ⟨by kernel_rfl, fun w => by go_simp⟩) ?_
    refine wpAny_ready (rs := [23, 26]) (by kernel_rfl) (by simp) ?_
    refine AllReady.cons rfl (fun K hK => ?_) (AllReady.cons rfl (fun K hK => ?_) AllReady.nil)
    · skip
      go_simp
      refine hK _ _ ?_
      clear hK K
      refine wpAny_ready (rs := [24, 26]) (by kernel_rfl) (by simp) ?_
      refine AllReady.cons rfl (fun K hK => ?_) (AllReady.cons rfl (fun K hK => ?_) AllReady.nil)
      · skip
        go_simp
        refine (sum_row (b := b) ?_).mono ?_
        · exact row4 HT.out HR.out LB.out hk hi (by repeat (with_reducible (first | exact Below.refl _ _ | apply Below.drew | apply bel_alloc))) (by repeat (with_reducible (first | apply cell_drew | (refine cell_new ?_ ?_ <;> (simp; done)) | (refine cell_old ?hlt ?_; case hlt => (simp; done))))) (by repeat (with_reducible (first | apply cell_drew | (refine cell_new ?_ ?_ <;> (simp; done)) | (refine cell_old ?hlt ?_; case hlt => (simp; done))))) (by repeat (with_reducible (first | apply cell_drew | (refine cell_new ?_ ?_ <;> (simp; done)) | (refine cell_old ?hlt ?_; case hlt => (simp; done))))) (by repeat (with_reducible (first | apply cell_drew | (refine cell_new ?_ ?_ <;> (simp; done)) | (refine cell_old ?hlt ?_; case hlt => (simp; done)))))
        rintro e w' ⟨rfl, rfl⟩
        refine hK _ _ ?_
        clear hK K
        refine wpAny_ready (rs := [26]) (by kernel_rfl) (by simp) ?_
        refine AllReady.cons rfl (fun K hK => ?_) AllReady.nil
        go_simp
        refine hK _ _ ?_
        clear hK K
        refine wpAny_ready (rs := [27]) (by kernel_rfl) (by simp) ?_
        refine AllReady.cons rfl (fun K hK => ?_) AllReady.nil
        go_simp
        refine (sum_row (b := b) ?_).mono ?_
        · exact row1 HT.out HR.out LB.out (by repeat (with_reducible (first | exact Below.refl _ _ | apply Below.drew | apply bel_alloc))) (by repeat (with_reducible (first | apply cell_drew | (refine cell_new ?_ ?_ <;> (simp; done)) | (refine cell_old ?hlt ?_; case hlt => (simp; done)))))
        rintro e w' ⟨rfl, rfl⟩
        refine hK _ _ ?_
        clear hK K
        refine wpAny_take (i := 28) (v := .bool true) rfl (by kernel_rfl) (by kernel_rfl) (by kernel_rfl) (fun _ _ _ h => h) (Or.inl ⟨by kernel_rfl, fun w => by go_simp⟩) ?_
        refine wpAny_take (i := 29) (v := .bool true) rfl (by kernel_rfl) (by kernel_rfl) (by kernel_rfl) (fun _ _ _ h => h) (Or.inl ⟨by kernel_rfl, fun w => by go_simp⟩) ?_
        refine wpAny_take (i := 30) (v := .bool true) rfl (by kernel_rfl) (by kernel_rfl) (by kernel_rfl) (fun _ _ _ h => h) (Or.inl ⟨by kernel_rfl, fun w => by go_simp⟩) ?_
        refine wpAny_ready (rs := [31]) (by kernel_rfl) (by simp) ?_
        refine AllReady.cons rfl (fun K hK => ?_) AllReady.nil
        go_simp
        refine (awake_any _ ?_).mono ?_
        · exact HT.out.below (by repeat (with_reducible (first | exact Below.refl _ _ | apply Below.drew | apply bel_alloc)))
        rintro e w' ⟨rfl, hb5⟩
        refine hK _ _ ?_
        clear hK K
        refine wpAny_take (i := 32) (v := .bool true) rfl (by kernel_rfl) (by kernel_rfl) (by kernel_rfl) (fun _ _ _ h => h) (Or.inl ⟨by kernel_rfl, fun w => by go_simp⟩) ?_
        refine wpAny_take (i := 33) (v := .bool true) rfl (by kernel_rfl) (by kernel_rfl) (by kernel_rfl) (fun _ _ _ h => h) (Or.inl ⟨by kernel_rfl, fun w => by go_simp⟩) ?_
        refine wpAny_done (by kernel_rfl) ?_ _
        go_wp2
        go_ret
        exact ⟨rfl, bel_trans (by repeat (with_reducible (first | exact Below.refl _ _ | apply Below.drew | apply bel_alloc))) hb5⟩
      · skip
        go_simp
        refine hK _ _ ?_
        clear hK K
        refine wpAny_ready (rs := [24]) (by kernel_rfl) (by simp) ?_
        refine AllReady.cons rfl (fun K hK => ?_) AllReady.nil
        go_simp
        refine (sum_row (b := b) ?_).mono ?_
        · exact row4 HT.out HR.out LB.out hk hi (by repeat (with_reducible (first | exact Below.refl _ _ | apply Below.drew | apply bel_alloc))) (by repeat (with_reducible (first | apply cell_drew | (refine cell_new ?_ ?_ <;> (simp; done)) | (refine cell_old ?hlt ?_; case hlt => (simp; done))))) (by repeat (with_reducible (first | apply cell_drew | (refine cell_new ?_ ?_ <;> (simp; done)) | (refine cell_old ?hlt ?_; case hlt => (simp; done))))) (by repeat (with_reducible (first | apply cell_drew | (refine cell_new ?_ ?_ <;> (simp; done)) | (refine cell_old ?hlt ?_; case hlt => (simp; done))))) (by repeat (with_reducible (first | apply cell_drew | (refine cell_new ?_ ?_ <;> (simp; done)) | (refine cell_old ?hlt ?_; case hlt => (simp; done)))))
        rintro e w' ⟨rfl, rfl⟩
        refine hK _ _ ?_
        clear hK K
        refine wpAny_ready (rs := [27]) (by kernel_rfl) (by simp) ?_
        refine AllReady.cons rfl (fun K hK => ?_) AllReady.nil
        go_simp
        refine (sum_row (b := b) ?_).mono ?_
        · exact row1 HT.out HR.out LB.out (by repeat (with_reducible (first | exact Below.refl _ _ | apply Below.drew | apply bel_alloc))) (by repeat (with_reducible (first | apply cell_drew | (refine cell_new ?_ ?_ <;> (simp; done)) | (refine cell_old ?hlt ?_; case hlt => (simp; done)))))
        rintro e w' ⟨rfl, rfl⟩
        refine hK _ _ ?_
        clear hK K
        refine wpAny_take (i := 28) (v := .bool true) rfl (by kernel_rfl) (by kernel_rfl) (by kernel_rfl) (fun _ _ _ h => h) (Or.inl ⟨by kernel_rfl, fun w => by go_simp⟩) ?_
        refine wpAny_take (i := 29) (v := .bool true) rfl (by kernel_rfl) (by kernel_rfl) (by kernel_rfl) (fun _ _ _ h => h) (Or.inl ⟨by kernel_rfl, fun w => by go_simp⟩) ?_
        refine wpAny_take (i := 30) (v := .bool true) rfl (by kernel_rfl) (by kernel_rfl) (by kernel_rfl) (fun _ _ _ h => h) (Or.inl ⟨by kernel_rfl, fun w => by go_simp⟩) ?_
        refine wpAny_ready (rs := [31]) (by kernel_rfl) (by simp) ?_
        refine AllReady.cons rfl (fun K hK => ?_) AllReady.nil
        go_simp
        refine (awake_any _ ?_).mono ?_
        · exact HT.out.below (by repeat (with_reducible (first | exact Below.refl _ _ | apply Below.drew | apply bel_alloc)))
        rintro e w' ⟨rfl, hb5⟩
        refine hK _ _ ?_
        clear hK K
        refine wpAny_take (i := 32) (v := .bool true) rfl (by kernel_rfl) (by kernel_rfl) (by kernel_rfl) (fun _ _ _ h => h) (Or.inl ⟨by kernel_rfl, fun w => by go_simp⟩) ?_
        refine wpAny_take (i := 33) (v := .bool true) rfl (by kernel_rfl) (by kernel_rfl) (by kernel_rfl) (fun _ _ _ h => h) (Or.inl ⟨by kernel_rfl, fun w => by go_simp⟩) ?_
        refine wpAny_done (by kernel_rfl) ?_ _
        go_wp2
        go_ret
        exact ⟨rfl, bel_trans (by repeat (with_reducible (first | exact Below.refl _ _ | apply Below.drew | apply bel_alloc))) hb5⟩
    · skip
      go_simp
      refine hK _ _ ?_
      clear hK K
      refine wpAny_ready (rs := [23]) (by kernel_rfl) (by simp) ?_
      refine AllReady.cons rfl (fun K hK => ?_) AllReady.nil
      go_simp
      refine hK _ _ ?_
      clear hK K
      refine wpAny_ready (rs := [24]) (by kernel_rfl) (by simp) ?_
      refine AllReady.cons rfl (fun K hK => ?_) AllReady.nil
      go_simp
      refine (sum_row (b := b) ?_).mono ?_
      · exact row4 HT.out HR.out LB.out hk hi (by repeat (with_reducible (first | exact Below.refl _ _ | apply Below.drew | apply bel_alloc))) (by repeat (with_reducible (first | apply cell_drew | (refine cell_new ?_ ?_ <;> (simp; done)) | (refine cell_old ?hlt ?_; case hlt => (simp; done))))) (by repeat (with_reducible (first | apply cell_drew | (refine cell_new ?_ ?_ <;> (simp; done)) | (refine cell_old ?hlt ?_; case hlt => (simp; done))))) (by repeat (with_reducible (first | apply cell_drew | (refine cell_new ?_ ?_ <;> (simp; done)) | (refine cell_old ?hlt ?_; case hlt => (simp; done))))) (by repeat (with_reducible (first | apply cell_drew | (refine cell_new ?_ ?_ <;> (simp; done)) | (refine cell_old ?hlt ?_; case hlt => (simp; done)))))
      rintro e w' ⟨rfl, rfl⟩
      refine hK _ _ ?_
      clear hK K
      refine wpAny_ready (rs := [27]) (by kernel_rfl) (by simp) ?_
      refine AllReady.cons rfl (fun K hK => ?_) AllReady.nil
      go_simp
      refine (sum_row (b := b) ?_).mono ?_
      · exact row1 HT.out HR.out LB.out (by repeat (with_reducible (first | exact Below.refl _ _ | apply Below.drew | apply bel_alloc))) (by repeat (with_reducible (first | apply cell_drew | (refine cell_new ?_ ?_ <;> (simp; done)) | (refine cell_old ?hlt ?_; case hlt => (simp; done)))))
      rintro e w' ⟨rfl, rfl⟩
      refine hK _ _ ?_
      clear hK K
      refine wpAny_take (i := 28) (v := .bool true) rfl (by kernel_rfl) (by kernel_rfl) (by kernel_rfl) (fun _ _ _ h => h) (Or.inl ⟨by kernel_rfl, fun w => by go_simp⟩) ?_
      refine wpAny_take (i := 29) (v := .bool true) rfl (by kernel_rfl) (by kernel_rfl) (by kernel_rfl) (fun _ _ _ h => h) (Or.inl ⟨by kernel_rfl, fun w => by go_simp⟩) ?_
      refine wpAny_take (i := 30) (v := .bool true) rfl (by kernel_rfl) (by kernel_rfl) (by kernel_rfl) (fun _ _ _ h => h) (Or.inl ⟨by kernel_rfl, fun w => by go_simp⟩) ?_
      refine wpAny_ready (rs := [31]) (by kernel_rfl) (by simp) ?_
      refine AllReady.cons rfl (fun K hK => ?_) AllReady.nil
      go_simp
      refine (awake_any _ ?_).mono ?_
      · exact HT.out.below (by repeat (with_reducible (first | exact Below.refl _ _ | apply Below.drew | apply bel_alloc)))
      rintro e w' ⟨rfl, hb5⟩
      refine hK _ _ ?_
      clear hK K
      refine wpAny_take (i := 32) (v := .bool true) rfl (by kernel_rfl) (by kernel_rfl) (by kernel_rfl) (fun _ _ _ h => h) (Or.inl ⟨by kernel_rfl, fun w => by go_simp⟩) ?_
      refine wpAny_take (i := 33) (v := .bool true) rfl (by kernel_rfl) (by kernel_rfl) (by kernel_rfl) (fun _ _ _ h => h) (Or.inl ⟨by kernel_rfl, fun w => by go_simp⟩) ?_
      refine wpAny_done (by kernel_rfl) ?_ _
      go_wp2
      go_ret
      exact ⟨rfl, bel_trans (by repeat (with_reducible (first | exact Below.refl _ _ | apply Below.drew | apply bel_alloc))) hb5⟩
end Go.Proofs.YtnlgikaebhiamaaDoor
