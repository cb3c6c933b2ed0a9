/-
  Texts of earlier layers, as one.
-/
import Derived.Test.YtlcggldcofncgaaRCmd
import Derived.BigRegion
import Derived.Deep.Cut
/- The document's Meet. -/
namespace Go.Proofs.Ytlcggldcofncgaa.Cw
open Go.RowKit Mem Run Cmd


set_option maxHeartbeats 4000000 in
theorem refmeet_any (akd acl asq : Int) (aky avl : ByteArray) (arv : Int) (bkd bcl bsq : Int) (bky bvl : ByteArray) (brv : Int) (w : World) :
    Calls Try.prog 31 #[.agg #[.int .i64 akd, .int .i64 acl, .int .i64 asq, .string aky, .string avl, .int .i64 arv], .agg #[.int .i64 bkd, .int .i64 bcl, .int .i64 bsq, .string bky, .string bvl, .int .i64 brv]] w (Tells (meet ⟨akd, acl, asq, aky, avl, arv⟩ ⟨bkd, bcl, bsq, bky, bvl, brv⟩) w) := by
  by_cases h0 : akd = 0 ∨ bkd = 0
  · have hm : meet ⟨akd, acl, asq, aky, avl, arv⟩ ⟨bkd, bcl, bsq, bky, bvl, brv⟩ = false := if_pos h0
    rw [hm]
    clear hm
    rcases h0 with rfl | rfl
    all_goals
      go_enter Try.func31, Try.ntmps31
      go_wp2_with fail
      all_goals
        go_ret
        exact ⟨rfl, bel_alloc (bel_alloc (Below.refl _ _) _) _⟩
  have n1 : (akd == 0) = false := beq_false_of_ne fun h => h0 (.inl h)
  have n2 : (bkd == 0) = false := beq_false_of_ne fun h => h0 (.inr h)
  by_cases h1 : akd = 6 ∨ bkd = 6 ∨ acl = bcl
  · have hm : meet ⟨akd, acl, asq, aky, avl, arv⟩ ⟨bkd, bcl, bsq, bky, bvl, brv⟩ = true := by rw [meet, if_neg h0, if_pos h1]
    rw [hm]
    clear hm h0
    rcases h1 with rfl | rfl | rfl
    all_goals
      go_enter Try.func31, Try.ntmps31
      go_wp2_with fail
      all_goals
        go_ret
        exact ⟨rfl, bel_alloc (bel_alloc (Below.refl _ _) _) _⟩
  have n3 : (akd == 6) = false := beq_false_of_ne fun h => h1 (.inl h)
  have n4 : (bkd == 6) = false := beq_false_of_ne fun h => h1 (.inr (.inl h))
  have n5 : (acl == bcl) = false := beq_false_of_ne fun h => h1 (.inr (.inr h))
  obtain ⟨q, hq⟩ : ∃ q, (aky.toList == bky.toList) = q := ⟨_, rfl⟩
  obtain ⟨a5, ha5⟩ : ∃ q, (akd == 5) = q := ⟨_, rfl⟩
  obtain ⟨b5, hb5⟩ : ∃ q, (bkd == 5) = q := ⟨_, rfl⟩
  have H3 := Lib.hid (fun w => refbegins_any bky aky w)
  have H4 := Lib.hid (fun w => refbegins_any aky bky w)
  have hm : meet ⟨akd, acl, asq, aky, avl, arv⟩ ⟨bkd, bcl, bsq, bky, bvl, brv⟩ = ((writes akd || writes bkd) && (q || (a5 && decide (bts aky <+: bts bky)) || (b5 && decide (bts bky <+: bts aky)))) := by
    rw [meet, if_neg h0, if_neg h1, covers, covers]
    have e1 : decide (bts aky = bts bky) = q := by rw [← eq_tell]; exact hq
    have e2 : decide (bts bky = bts aky) = q := by rw [← e1]; exact decide_eq_decide.2 eq_comm
    simp only [e1, e2, ha5, hb5]
    cases q <;> simp
  rw [hm]
  have H1 := Lib.hid (fun w => refwrites_any akd acl asq aky avl arv w)
  have H2 := Lib.hid (fun w => refwrites_any bkd bcl bsq bky bvl brv w)
  clear hm h0 h1
  generalize writes akd = r1 at H1 ⊢
  generalize writes bkd = r2 at H2 ⊢
  generalize decide (bts aky <+: bts bky) = r3 at H3 ⊢
  generalize decide (bts bky <+: bts aky) = r4 at H4 ⊢
  obtain ⟨hk1, hk2, hcu⟩ := two_boxes w 24 #[.int .i64 akd, .int .i64 acl, .int .i64 asq, .string aky, .string avl, .int .i64 arv] #[.int .i64 bkd, .int .i64 bcl, .int .i64 bsq, .string bky, .string bvl, .int .i64 brv]
  have HK1 := Lib.hid hk1
  have HK2 := Lib.hid hk2
  have HCU := Lib.hid hcu
  clear hk1 hk2 hcu
  go_enter Try.func31, Try.ntmps31
  cases r1
  case' false => cases r2
  case false.false =>
    go_wp2_with (first | (go_at_call 46; refine (H1.out _).mono ?_; rintro e w1 ⟨rfl, hb1⟩; have hk1 := HK1.out.bel hb1; have hk2 := HK2.out.bel hb1; have hcu := bel_trans HCU.out hb1; obtain ⟨p0, p1, p2, p3, p4, p5⟩ := blk6 hk1; obtain ⟨q0, q1, q2, q3, q4, q5⟩ := blk6 hk2; replace HK1 := Lib.hid hk1; replace HK2 := Lib.hid hk2; replace HCU := Lib.hid hcu; clear H1 hb1 hk1 hk2 hcu) | (go_at_call 46; refine (H2.out _).mono ?_; rintro e w1 ⟨rfl, hb1⟩; have hk1 := HK1.out.bel hb1; have hk2 := HK2.out.bel hb1; have hcu := bel_trans HCU.out hb1; obtain ⟨p0, p1, p2, p3, p4, p5⟩ := blk6 hk1; obtain ⟨q0, q1, q2, q3, q4, q5⟩ := blk6 hk2; replace HK1 := Lib.hid hk1; replace HK2 := Lib.hid hk2; replace HCU := Lib.hid hcu; clear H2 hb1 hk1 hk2 hcu))
    go_ret
    exact ⟨rfl, HCU.out⟩
  all_goals
    go_upto_region 7 with (first | (go_at_call 46; refine (H1.out _).mono ?_; rintro e w1 ⟨rfl, hb1⟩; have hk1 := HK1.out.bel hb1; have hk2 := HK2.out.bel hb1; have hcu := bel_trans HCU.out hb1; obtain ⟨p0, p1, p2, p3, p4, p5⟩ := blk6 hk1; obtain ⟨q0, q1, q2, q3, q4, q5⟩ := blk6 hk2; replace HK1 := Lib.hid hk1; replace HK2 := Lib.hid hk2; replace HCU := Lib.hid hcu; clear H1 hb1 hk1 hk2 hcu) | (go_at_call 46; refine (H2.out _).mono ?_; rintro e w1 ⟨rfl, hb1⟩; have hk1 := HK1.out.bel hb1; have hk2 := HK2.out.bel hb1; have hcu := bel_trans HCU.out hb1; obtain ⟨p0, p1, p2, p3, p4, p5⟩ := blk6 hk1; obtain ⟨q0, q1, q2, q3, q4, q5⟩ := blk6 hk2; replace HK1 := Lib.hid hk1; replace HK2 := Lib.hid hk2; replace HCU := Lib.hid hcu; clear H2 hb1 hk1 hk2 hcu))
    cases q
    case true =>
      go_wp2_with fail
      go_ret
      exact ⟨rfl, HCU.out⟩
    cases a5
    case' false => clear H3
    case' true => cases r3
    case true.true =>
      go_wp2_with (go_at_call 47; refine (H3.out _).mono ?_; rintro e w1 ⟨rfl, rfl⟩; clear H3)
      go_ret
      exact ⟨rfl, HCU.out⟩
    all_goals
      cases b5
      all_goals
        go_wp2_with (first | (go_at_call 47; refine (H3.out _).mono ?_; rintro e w1 ⟨rfl, rfl⟩; clear H3) | (go_at_call 47; refine (H4.out _).mono ?_; rintro e w1 ⟨rfl, rfl⟩; clear H4))
        go_ret
        exact ⟨rfl, HCU.out⟩
end Go.Proofs.Ytlcggldcofncgaa.Cw
