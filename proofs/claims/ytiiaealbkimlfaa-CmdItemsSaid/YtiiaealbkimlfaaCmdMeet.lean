/-
  cmd.covers and Meet.
-/
import Derived.Test.YtiiaealbkimlfaaCmdUn
namespace Go.Proofs.Ytiiaealbkimlfaa
open Go.RowKit Mem Run Cmd

theorem covers_any (akd acl asq : Int) (aky avl : ByteArray) (arv : Int) (bkd bcl bsq : Int) (bky bvl : ByteArray) (brv : Int) (w : World) :
    Calls Try.prog 28 #[.agg #[.int .i64 akd, .int .i64 acl, .int .i64 asq, .string aky, .string avl, .int .i64 arv], .agg #[.int .i64 bkd, .int .i64 bcl, .int .i64 bsq, .string bky, .string bvl, .int .i64 brv]] w (Tells (covers ⟨akd, acl, asq, aky, avl, arv⟩ ⟨bkd, bcl, bsq, bky, bvl, brv⟩) w) := by
  have hb := fun w => begins_any bky aky w
  have HB := Lib.hid hb
  clear hb
  go_enter Try.func28, Try.ntmps28
  go_wp2_with (go_at_call 40; refine (HB.out _).mono ?_; rintro e w1 ⟨rfl, rfl⟩)
  all_goals
    go_ret
    exact ⟨by simp_all [covers, eq_tell, toList_iff], bel_alloc (bel_alloc (Below.refl _ _) _) _⟩

theorem blk6 {w : World} {g : Nat} {t : TypeId} {a b c d e f : Value} (h : Blk w g t #[a, b, c, d, e, f]) : w.cell? ⟨g, 0, none⟩ = some a ∧ w.cell? ⟨g, 1, none⟩ = some b ∧ w.cell? ⟨g, 2, none⟩ = some c ∧ w.cell? ⟨g, 3, none⟩ = some d ∧ w.cell? ⟨g, 4, none⟩ = some e ∧ w.cell? ⟨g, 5, none⟩ = some f :=
  ⟨h.cell 0, h.cell 1, h.cell 2, h.cell 3, h.cell 4, h.cell 5⟩

/-- Two boxes just made. -/
theorem two_boxes (w : World) (t : TypeId) (a b : Array Value) : Blk ((w.alloc (.cells a t)).alloc (.cells b t)) w.heap.size t a ∧ Blk ((w.alloc (.cells a t)).alloc (.cells b t)) (w.heap.size + 1) t b ∧ Below w.heap.size w ((w.alloc (.cells a t)).alloc (.cells b t)) := by
  refine ⟨(Blk.new w t a).alloc _, ?_, ((Below.refl w.heap.size w).alloc (Nat.le_refl _) _).alloc (by rw [size_alloc]; omega) _⟩
  have h := Blk.new (w.alloc (.cells a t)) t b
  rwa [size_alloc] at h

set_option maxHeartbeats 2000000 in
theorem meet_any (akd acl asq : Int) (aky avl : ByteArray) (arv : Int) (bkd bcl bsq : Int) (bky bvl : ByteArray) (brv : Int) (w : World) :
    Calls Try.prog 13 #[.agg #[.int .i64 akd, .int .i64 acl, .int .i64 asq, .string aky, .string avl, .int .i64 arv], .agg #[.int .i64 bkd, .int .i64 bcl, .int .i64 bsq, .string bky, .string bvl, .int .i64 brv]] w (Tells (meet ⟨akd, acl, asq, aky, avl, arv⟩ ⟨bkd, bcl, bsq, bky, bvl, brv⟩) w) := by
  by_cases h0 : akd = 0 ∨ bkd = 0
  · have hm : meet ⟨akd, acl, asq, aky, avl, arv⟩ ⟨bkd, bcl, bsq, bky, bvl, brv⟩ = false := if_pos h0
    rw [hm]
    clear hm
    rcases h0 with rfl | rfl
    all_goals
      go_enter Try.func13, Try.ntmps13
      go_wp2_with fail
      all_goals
        go_ret
        exact ⟨rfl, bel_alloc (bel_alloc (Below.refl _ _) _) _⟩
  have n1 : (akd == 0) = false := beq_false_of_ne fun h => h0 (.inl h)
  have n2 : (bkd == 0) = false := beq_false_of_ne fun h => h0 (.inr h)
  by_cases h1 : akd = 6 ∨ bkd = 6 ∨ acl = bcl
  · have hm : meet ⟨akd, acl, asq, aky, avl, arv⟩ ⟨bkd, bcl, bsq, bky, bvl, brv⟩ = true := by rw [meet, if_neg h0, if_pos h1]
    rw [hm]
    clear hm h0
    rcases h1 with rfl | rfl | rfl
    all_goals
      go_enter Try.func13, Try.ntmps13
      go_wp2_with fail
      all_goals
        go_ret
        exact ⟨rfl, bel_alloc (bel_alloc (Below.refl _ _) _) _⟩
  have n3 : (akd == 6) = false := beq_false_of_ne fun h => h1 (.inl h)
  have n4 : (bkd == 6) = false := beq_false_of_ne fun h => h1 (.inr (.inl h))
  have n5 : (acl == bcl) = false := beq_false_of_ne fun h => h1 (.inr (.inr h))
  have hm : meet ⟨akd, acl, asq, aky, avl, arv⟩ ⟨bkd, bcl, bsq, bky, bvl, brv⟩ = ((writes akd || writes bkd) && (covers ⟨akd, acl, asq, aky, avl, arv⟩ ⟨bkd, bcl, bsq, bky, bvl, brv⟩ || covers ⟨bkd, bcl, bsq, bky, bvl, brv⟩ ⟨akd, acl, asq, aky, avl, arv⟩)) := by rw [meet, if_neg h0, if_neg h1]
  rw [hm]
  have H1 := Lib.hid (fun w => writes_any akd acl asq aky avl arv w)
  have H2 := Lib.hid (fun w => writes_any bkd bcl bsq bky bvl brv w)
  have H3 := Lib.hid (fun w => covers_any akd acl asq aky avl arv bkd bcl bsq bky bvl brv w)
  have H4 := Lib.hid (fun w => covers_any bkd bcl bsq bky bvl brv akd acl asq aky avl arv w)
  clear hm h0 h1
  generalize writes akd = r1 at H1 ⊢
  generalize writes bkd = r2 at H2 ⊢
  generalize covers ⟨akd, acl, asq, aky, avl, arv⟩ ⟨bkd, bcl, bsq, bky, bvl, brv⟩ = r3 at H3 ⊢
  generalize covers ⟨bkd, bcl, bsq, bky, bvl, brv⟩ ⟨akd, acl, asq, aky, avl, arv⟩ = r4 at H4 ⊢
  obtain ⟨hk1, hk2, hcu⟩ := two_boxes w 23 #[.int .i64 akd, .int .i64 acl, .int .i64 asq, .string aky, .string avl, .int .i64 arv] #[.int .i64 bkd, .int .i64 bcl, .int .i64 bsq, .string bky, .string bvl, .int .i64 brv]
  have HK1 := Lib.hid hk1
  have HK2 := Lib.hid hk2
  have HCU := Lib.hid hcu
  clear hk1 hk2 hcu
  go_enter Try.func13, Try.ntmps13
  cases r1 <;> cases r2 <;> cases r3
  all_goals
    go_wp2_with (first | (go_at_call 11; refine (H1.out _).mono ?_; rintro e w1 ⟨rfl, hb1⟩; have hk1 := HK1.out.bel hb1; have hk2 := HK2.out.bel hb1; have hcu := bel_trans HCU.out hb1; obtain ⟨p0, p1, p2, p3, p4, p5⟩ := blk6 hk1; obtain ⟨q0, q1, q2, q3, q4, q5⟩ := blk6 hk2; replace HK1 := Lib.hid hk1; replace HK2 := Lib.hid hk2; replace HCU := Lib.hid hcu; clear H1 hb1 hk1 hk2 hcu) | (go_at_call 11; refine (H2.out _).mono ?_; rintro e w1 ⟨rfl, hb1⟩; have hk1 := HK1.out.bel hb1; have hk2 := HK2.out.bel hb1; have hcu := bel_trans HCU.out hb1; obtain ⟨p0, p1, p2, p3, p4, p5⟩ := blk6 hk1; obtain ⟨q0, q1, q2, q3, q4, q5⟩ := blk6 hk2; replace HK1 := Lib.hid hk1; replace HK2 := Lib.hid hk2; replace HCU := Lib.hid hcu; clear H2 hb1 hk1 hk2 hcu) | (go_at_call 28; refine (H3.out _).mono ?_; rintro e w1 ⟨rfl, hb1⟩; have hk1 := HK1.out.bel hb1; have hk2 := HK2.out.bel hb1; have hcu := bel_trans HCU.out hb1; obtain ⟨p0, p1, p2, p3, p4, p5⟩ := blk6 hk1; obtain ⟨q0, q1, q2, q3, q4, q5⟩ := blk6 hk2; replace HK1 := Lib.hid hk1; replace HK2 := Lib.hid hk2; replace HCU := Lib.hid hcu; clear H3 hb1 hk1 hk2 hcu) | (go_at_call 28; refine (H4.out _).mono ?_; rintro e w1 ⟨rfl, hb1⟩; have hk1 := HK1.out.bel hb1; have hk2 := HK2.out.bel hb1; have hcu := bel_trans HCU.out hb1; obtain ⟨p0, p1, p2, p3, p4, p5⟩ := blk6 hk1; obtain ⟨q0, q1, q2, q3, q4, q5⟩ := blk6 hk2; replace HK1 := Lib.hid hk1; replace HK2 := Lib.hid hk2; replace HCU := Lib.hid hcu; clear H4 hb1 hk1 hk2 hcu))
    go_ret
    exact ⟨rfl, HCU.out⟩
end Go.Proofs.Ytiiaealbkimlfaa
