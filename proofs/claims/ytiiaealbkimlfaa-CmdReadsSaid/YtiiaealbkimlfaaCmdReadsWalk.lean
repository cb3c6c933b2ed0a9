/-
  The walk of the statement CmdReads.
-/
import Derived.Test.YtiiaealbkimlfaaCmdAwake
import Derived.Test.YtiiaealbkimlfaaCmdTake
import Derived.BigRegion
import Derived.Deep.Cut
namespace Go.Proofs.Ytiiaealbkimlfaa
open Go.RowKit Mem Cmd Cod

theorem meet_reads {a b : Cm} (ha : (a.kd == 6) = false) (hb : (b.kd == 6) = false) (hc : (a.cl != b.cl) = true) (h1 : writes a.kd = false) (h2 : writes b.kd = false) : meet a b = false := by
  rw [meet]
  split
  · rfl
  · have e : ¬ (a.kd = 6 ∨ b.kd = 6 ∨ a.cl = b.cl) := by
      simp only [beq_eq_false_iff_ne, bne_iff_ne] at ha hb hc
      rintro (h | h | h)
      · exact ha h
      · exact hb h
      · exact hc h
    rw [if_neg e, h1, h2]
    rfl

set_option maxRecDepth 100000 in
set_option maxHeartbeats 8000000 in
theorem cmdreads_true (akd acl asq : Int) (aky avl : ByteArray) (arv : Int) (bkd bcl bsq : Int) (bky bvl : ByteArray) (brv : Int) (w : World) :
    Calls Try.prog 6 #[.agg #[.int .i64 akd, .int .i64 acl, .int .i64 asq, .string aky, .string avl, .int .i64 arv], .agg #[.int .i64 bkd, .int .i64 bcl, .int .i64 bsq, .string bky, .string bvl, .int .i64 brv]] w (Tells true w) := by
  have HA := Lib.hid awake_any
  have g1 := fun w => great_any akd acl asq aky avl arv w
  have g2 := fun w => great_any bkd bcl bsq bky bvl brv w
  have hmr := meet_reads (a := ⟨akd, acl, asq, aky, avl, arv⟩) (b := ⟨bkd, bcl, bsq, bky, bvl, brv⟩)
  have c1 := fun w => check_any akd acl asq aky avl arv w
  have m1 := fun w => meet_any akd acl asq aky avl arv bkd bcl bsq bky bvl brv w
  have w1 := fun w => writes_any akd acl asq aky avl arv w
  have w2 := fun w => writes_any bkd bcl bsq bky bvl brv w
  have hit := fun w => cmitem_any akd acl asq aky avl arv w
  have htk : Cmd.chk ⟨akd, acl, asq, aky, avl, arv⟩ = 0 → ∀ (w : World) (V : Option Addr) (k : Nat), Lies w (fun b => b < w.heap.size) (cmIt ⟨akd, acl, asq, aky, avl, arv⟩) V k → Calls Try.prog 17 #[.agg #[.int .i64 (cmIt ⟨akd, acl, asq, aky, avl, arv⟩).kind, .int .u64 ((cmIt ⟨akd, acl, asq, aky, avl, arv⟩).num : Int), .string (cmIt ⟨akd, acl, asq, aky, avl, arv⟩).str, .slice V (cmIt ⟨akd, acl, asq, aky, avl, arv⟩).kids.length k]] w fun e w' => e = .returned (.tuple #[.agg #[.int .i64 akd, .int .i64 acl, .int .i64 asq, .string aky, .string avl, .int .i64 arv], .bool true]) ∧ Below w.heap.size w w' := by
    intro hc w V k hl
    refine (cmtake_any (cmIt ⟨akd, acl, asq, aky, avl, arv⟩) V k _ w hl (fun b hb => hb)).mono ?_
    rintro e w' ⟨c, b, rfl, h1, h2, hb⟩
    rw [take_cm hc] at h1 h2
    subst h1; subst h2
    exact ⟨rfl, hb⟩
  have hi0 : Cmd.chk ⟨akd, acl, asq, aky, avl, arv⟩ = 0 → itemOf ⟨akd, acl, asq, aky, avl, arv⟩ = cmIt ⟨akd, acl, asq, aky, avl, arv⟩ := fun h => by rw [itemOf, if_pos h]
  have heq : ∀ w, Sem.run Try.prog (binOp .eql 23 (.agg #[.int .i64 akd, .int .i64 acl, .int .i64 asq, .string aky, .string avl, .int .i64 arv]) (.agg #[.int .i64 akd, .int .i64 acl, .int .i64 asq, .string aky, .string avl, .int .i64 arv])) w = .ok (.bool true) w := fun w => by rw [eql_cmd, eqv_refl]
  generalize great ⟨akd, acl, asq, aky, avl, arv⟩ = r1 at g1
  generalize great ⟨bkd, bcl, bsq, bky, bvl, brv⟩ = r2 at g2
  obtain ⟨x6, hx6⟩ : ∃ q, (akd == 6) = q := ⟨_, rfl⟩
  obtain ⟨y6, hy6⟩ : ∃ q, (bkd == 6) = q := ⟨_, rfl⟩
  obtain ⟨ne, hne⟩ : ∃ q, (acl != bcl) = q := ⟨_, rfl⟩
  obtain ⟨v, hv⟩ : ∃ v, Cmd.chk ⟨akd, acl, asq, aky, avl, arv⟩ = v := ⟨_, rfl⟩
  obtain ⟨y, hy⟩ : ∃ y, cmIt ⟨akd, acl, asq, aky, avl, arv⟩ = y := ⟨_, rfl⟩
  simp only at hmr
  rw [hx6, hy6, hne] at hmr
  generalize meet ⟨akd, acl, asq, aky, avl, arv⟩ ⟨bkd, bcl, bsq, bky, bvl, brv⟩ = m at m1 hmr
  generalize writes akd = wa at w1 hmr
  generalize writes bkd = wb at w2 hmr
  rw [hv] at c1 htk hi0
  rw [hy] at htk hi0
  generalize itemOf ⟨akd, acl, asq, aky, avl, arv⟩ = z at hit hi0
  have HG1 := Lib.hid g1
  have HG2 := Lib.hid g2
  have HW1 := Lib.hid w1
  have HW2 := Lib.hid w2
  have HMR := Lib.hid hmr
  obtain ⟨hk1, hk2, hcu⟩ := two_boxes w 23 #[.int .i64 akd, .int .i64 acl, .int .i64 asq, .string aky, .string avl, .int .i64 arv] #[.int .i64 bkd, .int .i64 bcl, .int .i64 bsq, .string bky, .string bvl, .int .i64 brv]
  have HK1 := Lib.hid hk1
  have HK2 := Lib.hid hk2
  have HCU := Lib.hid hcu
  have HI0 := Lib.hid hi0
  clear hk1 hk2 hcu g1 g2 w1 w2 hmr hv hy hi0
  go_enter Try.func6, Try.ntmps6
  cases r1
  case true =>
    clear c1 m1 htk hit heq
    go_wp2_with (first | (go_at_call 7; refine (HG1.out _).mono ?_; rintro e w1 ⟨rfl, hb1⟩; have hk1 := HK1.out.bel hb1; have hk2 := HK2.out.bel hb1; have hcu := bel_trans HCU.out hb1; obtain ⟨p0, p1, p2, p3, p4, p5⟩ := blk6 hk1; obtain ⟨q0, q1, q2, q3, q4, q5⟩ := blk6 hk2; replace HK1 := Lib.hid hk1; replace HK2 := Lib.hid hk2; replace HCU := Lib.hid hcu; clear HG1 hb1 hk1 hk2 hcu) | (go_at_call 8; refine (HA.out _).mono ?_; rintro e w1 ⟨rfl, hb1⟩; have hk1 := HK1.out.bel hb1; have hk2 := HK2.out.bel hb1; have hcu := bel_trans HCU.out hb1; obtain ⟨p0, p1, p2, p3, p4, p5⟩ := blk6 hk1; obtain ⟨q0, q1, q2, q3, q4, q5⟩ := blk6 hk2; replace HK1 := Lib.hid hk1; replace HK2 := Lib.hid hk2; replace HCU := Lib.hid hcu; clear HA hb1 hk1 hk2 hcu))
    go_ret
    exact ⟨rfl, HCU.out⟩
  cases r2
  case true =>
    clear c1 m1 htk hit heq
    go_wp2_with (first | (go_at_call 7; refine (HG1.out _).mono ?_; rintro e w1 ⟨rfl, hb1⟩; have hk1 := HK1.out.bel hb1; have hk2 := HK2.out.bel hb1; have hcu := bel_trans HCU.out hb1; obtain ⟨p0, p1, p2, p3, p4, p5⟩ := blk6 hk1; obtain ⟨q0, q1, q2, q3, q4, q5⟩ := blk6 hk2; replace HK1 := Lib.hid hk1; replace HK2 := Lib.hid hk2; replace HCU := Lib.hid hcu; clear HG1 hb1 hk1 hk2 hcu) | (go_at_call 7; refine (HG2.out _).mono ?_; rintro e w1 ⟨rfl, hb1⟩; have hk1 := HK1.out.bel hb1; have hk2 := HK2.out.bel hb1; have hcu := bel_trans HCU.out hb1; obtain ⟨p0, p1, p2, p3, p4, p5⟩ := blk6 hk1; obtain ⟨q0, q1, q2, q3, q4, q5⟩ := blk6 hk2; replace HK1 := Lib.hid hk1; replace HK2 := Lib.hid hk2; replace HCU := Lib.hid hcu; clear HG2 hb1 hk1 hk2 hcu) | (go_at_call 8; refine (HA.out _).mono ?_; rintro e w1 ⟨rfl, hb1⟩; have hk1 := HK1.out.bel hb1; have hk2 := HK2.out.bel hb1; have hcu := bel_trans HCU.out hb1; obtain ⟨p0, p1, p2, p3, p4, p5⟩ := blk6 hk1; obtain ⟨q0, q1, q2, q3, q4, q5⟩ := blk6 hk2; replace HK1 := Lib.hid hk1; replace HK2 := Lib.hid hk2; replace HCU := Lib.hid hcu; clear HA hb1 hk1 hk2 hcu))
    go_ret
    exact ⟨rfl, HCU.out⟩
  cases x6
  case true =>
    have e6 : akd = 6 := by simpa using hx6
    subst e6
    clear c1 m1 htk hit heq
    go_wp2_with (first | (go_at_call 7; refine (HG1.out _).mono ?_; rintro e w1 ⟨rfl, hb1⟩; have hk1 := HK1.out.bel hb1; have hk2 := HK2.out.bel hb1; have hcu := bel_trans HCU.out hb1; obtain ⟨p0, p1, p2, p3, p4, p5⟩ := blk6 hk1; obtain ⟨q0, q1, q2, q3, q4, q5⟩ := blk6 hk2; replace HK1 := Lib.hid hk1; replace HK2 := Lib.hid hk2; replace HCU := Lib.hid hcu; clear HG1 hb1 hk1 hk2 hcu) | (go_at_call 7; refine (HG2.out _).mono ?_; rintro e w1 ⟨rfl, hb1⟩; have hk1 := HK1.out.bel hb1; have hk2 := HK2.out.bel hb1; have hcu := bel_trans HCU.out hb1; obtain ⟨p0, p1, p2, p3, p4, p5⟩ := blk6 hk1; obtain ⟨q0, q1, q2, q3, q4, q5⟩ := blk6 hk2; replace HK1 := Lib.hid hk1; replace HK2 := Lib.hid hk2; replace HCU := Lib.hid hcu; clear HG2 hb1 hk1 hk2 hcu) | (go_at_call 8; refine (HA.out _).mono ?_; rintro e w1 ⟨rfl, hb1⟩; have hk1 := HK1.out.bel hb1; have hk2 := HK2.out.bel hb1; have hcu := bel_trans HCU.out hb1; obtain ⟨p0, p1, p2, p3, p4, p5⟩ := blk6 hk1; obtain ⟨q0, q1, q2, q3, q4, q5⟩ := blk6 hk2; replace HK1 := Lib.hid hk1; replace HK2 := Lib.hid hk2; replace HCU := Lib.hid hcu; clear HA hb1 hk1 hk2 hcu))
    go_ret
    exact ⟨rfl, HCU.out⟩
  cases y6
  case true =>
    have e6 : bkd = 6 := by simpa using hy6
    subst e6
    clear c1 m1 htk hit heq
    go_wp2_with (first | (go_at_call 7; refine (HG1.out _).mono ?_; rintro e w1 ⟨rfl, hb1⟩; have hk1 := HK1.out.bel hb1; have hk2 := HK2.out.bel hb1; have hcu := bel_trans HCU.out hb1; obtain ⟨p0, p1, p2, p3, p4, p5⟩ := blk6 hk1; obtain ⟨q0, q1, q2, q3, q4, q5⟩ := blk6 hk2; replace HK1 := Lib.hid hk1; replace HK2 := Lib.hid hk2; replace HCU := Lib.hid hcu; clear HG1 hb1 hk1 hk2 hcu) | (go_at_call 7; refine (HG2.out _).mono ?_; rintro e w1 ⟨rfl, hb1⟩; have hk1 := HK1.out.bel hb1; have hk2 := HK2.out.bel hb1; have hcu := bel_trans HCU.out hb1; obtain ⟨p0, p1, p2, p3, p4, p5⟩ := blk6 hk1; obtain ⟨q0, q1, q2, q3, q4, q5⟩ := blk6 hk2; replace HK1 := Lib.hid hk1; replace HK2 := Lib.hid hk2; replace HCU := Lib.hid hcu; clear HG2 hb1 hk1 hk2 hcu) | (go_at_call 8; refine (HA.out _).mono ?_; rintro e w1 ⟨rfl, hb1⟩; have hk1 := HK1.out.bel hb1; have hk2 := HK2.out.bel hb1; have hcu := bel_trans HCU.out hb1; obtain ⟨p0, p1, p2, p3, p4, p5⟩ := blk6 hk1; obtain ⟨q0, q1, q2, q3, q4, q5⟩ := blk6 hk2; replace HK1 := Lib.hid hk1; replace HK2 := Lib.hid hk2; replace HCU := Lib.hid hcu; clear HA hb1 hk1 hk2 hcu))
    go_ret
    exact ⟨rfl, HCU.out⟩
  go_upto_region 3 with (first | (go_at_call 7; refine (HG1.out _).mono ?_; rintro e w1 ⟨rfl, hb1⟩; have hk1 := HK1.out.bel hb1; have hk2 := HK2.out.bel hb1; have hcu := bel_trans HCU.out hb1; obtain ⟨p0, p1, p2, p3, p4, p5⟩ := blk6 hk1; obtain ⟨q0, q1, q2, q3, q4, q5⟩ := blk6 hk2; replace HK1 := Lib.hid hk1; replace HK2 := Lib.hid hk2; replace HCU := Lib.hid hcu; clear HG1 hb1 hk1 hk2 hcu) | (go_at_call 7; refine (HG2.out _).mono ?_; rintro e w1 ⟨rfl, hb1⟩; have hk1 := HK1.out.bel hb1; have hk2 := HK2.out.bel hb1; have hcu := bel_trans HCU.out hb1; obtain ⟨p0, p1, p2, p3, p4, p5⟩ := blk6 hk1; obtain ⟨q0, q1, q2, q3, q4, q5⟩ := blk6 hk2; replace HK1 := Lib.hid hk1; replace HK2 := Lib.hid hk2; replace HCU := Lib.hid hcu; clear HG2 hb1 hk1 hk2 hcu))
  have HC1 := Lib.hid c1
  have HC2 := Lib.hid c1
  have HM := Lib.hid m1
  clear m1
  cases wa
  case' false => cases wb
  case' false.false => cases ne
  case' false.false.true =>
    have hmf : m = false := by have := HMR.out; simpa using this
    subst hmf
  all_goals
    go_upto_region 5 with (first | (go_at_call 11; refine (HW1.out _).mono ?_; rintro e w1 ⟨rfl, hb1⟩; have hk1 := HK1.out.bel hb1; have hk2 := HK2.out.bel hb1; have hcu := bel_trans HCU.out hb1; obtain ⟨p0, p1, p2, p3, p4, p5⟩ := blk6 hk1; obtain ⟨q0, q1, q2, q3, q4, q5⟩ := blk6 hk2; replace HK1 := Lib.hid hk1; replace HK2 := Lib.hid hk2; replace HCU := Lib.hid hcu; clear HW1 hb1 hk1 hk2 hcu) | (go_at_call 11; refine (HW2.out _).mono ?_; rintro e w1 ⟨rfl, hb1⟩; have hk1 := HK1.out.bel hb1; have hk2 := HK2.out.bel hb1; have hcu := bel_trans HCU.out hb1; obtain ⟨p0, p1, p2, p3, p4, p5⟩ := blk6 hk1; obtain ⟨q0, q1, q2, q3, q4, q5⟩ := blk6 hk2; replace HK1 := Lib.hid hk1; replace HK2 := Lib.hid hk2; replace HCU := Lib.hid hcu; clear HW2 hb1 hk1 hk2 hcu) | (go_at_call 13; refine (HM.out _).mono ?_; rintro e w1 ⟨rfl, hb1⟩; have hk1 := HK1.out.bel hb1; have hk2 := HK2.out.bel hb1; have hcu := bel_trans HCU.out hb1; obtain ⟨p0, p1, p2, p3, p4, p5⟩ := blk6 hk1; obtain ⟨q0, q1, q2, q3, q4, q5⟩ := blk6 hk2; replace HK1 := Lib.hid hk1; replace HK2 := Lib.hid hk2; replace HCU := Lib.hid hcu; clear HM hb1 hk1 hk2 hcu))
    by_cases h0 : v = 0
    case neg =>
      have hn0 : (v != 0) = true := by simpa using h0
      clear c1 htk hit heq h0
      go_wp2_with (first | (go_at_call 9; refine (HC1.out _).mono ?_; rintro e w1 ⟨rfl, hb1⟩; have hk1 := HK1.out.bel hb1; have hk2 := HK2.out.bel hb1; have hcu := bel_trans HCU.out hb1; obtain ⟨p0, p1, p2, p3, p4, p5⟩ := blk6 hk1; obtain ⟨q0, q1, q2, q3, q4, q5⟩ := blk6 hk2; replace HK1 := Lib.hid hk1; replace HK2 := Lib.hid hk2; replace HCU := Lib.hid hcu; clear HC1 hb1 hk1 hk2 hcu) | (go_at_call 8; refine (HA.out _).mono ?_; rintro e w1 ⟨rfl, hb1⟩; have hk1 := HK1.out.bel hb1; have hk2 := HK2.out.bel hb1; have hcu := bel_trans HCU.out hb1; obtain ⟨p0, p1, p2, p3, p4, p5⟩ := blk6 hk1; obtain ⟨q0, q1, q2, q3, q4, q5⟩ := blk6 hk2; replace HK1 := Lib.hid hk1; replace HK2 := Lib.hid hk2; replace HCU := Lib.hid hcu; clear HA hb1 hk1 hk2 hcu))
      go_ret
      exact ⟨rfl, HCU.out⟩
    case pos =>
      subst h0
      have hzy := HI0.out rfl
      subst hzy
      have HIT := Lib.hid hit
      have HTK := Lib.hid (htk rfl)
      clear c1 htk hit
      go_wp2_with (first | (go_at_call 9; refine (HC1.out _).mono ?_; rintro e w1 ⟨rfl, hb1⟩; have hk1 := HK1.out.bel hb1; have hk2 := HK2.out.bel hb1; have hcu := bel_trans HCU.out hb1; obtain ⟨p0, p1, p2, p3, p4, p5⟩ := blk6 hk1; obtain ⟨q0, q1, q2, q3, q4, q5⟩ := blk6 hk2; replace HK1 := Lib.hid hk1; replace HK2 := Lib.hid hk2; replace HCU := Lib.hid hcu; clear HC1 hb1 hk1 hk2 hcu) | (go_at_call 16; refine (HIT.out _).mono ?_; rintro e w1 ⟨V1, k1, rfl, hl1, hb1⟩; have htk := HTK.out w1 V1 k1 hl1; have hk1 := HK1.out.bel hb1; have hk2 := HK2.out.bel hb1; have hcu := bel_trans HCU.out hb1; obtain ⟨p0, p1, p2, p3, p4, p5⟩ := blk6 hk1; obtain ⟨q0, q1, q2, q3, q4, q5⟩ := blk6 hk2; replace HK1 := Lib.hid hk1; replace HK2 := Lib.hid hk2; replace HCU := Lib.hid hcu; replace HTK := Lib.hid htk; clear HIT hb1 hk1 hk2 hcu hl1 htk) | (go_at_call 17; refine HTK.out.mono ?_; rintro e w2 ⟨rfl, hb1⟩; have hk1 := HK1.out.bel hb1; have hk2 := HK2.out.bel hb1; have hcu := bel_trans HCU.out hb1; obtain ⟨p0, p1, p2, p3, p4, p5⟩ := blk6 hk1; obtain ⟨q0, q1, q2, q3, q4, q5⟩ := blk6 hk2; replace HK1 := Lib.hid hk1; replace HK2 := Lib.hid hk2; replace HCU := Lib.hid hcu; have HN := Lib.hid (And.intro (Blk.new w2 23 #[.int .i64 akd, .int .i64 acl, .int .i64 asq, .string aky, .string avl, .int .i64 arv]) (And.intro (hk1.alloc (.cells #[.int .i64 akd, .int .i64 acl, .int .i64 asq, .string aky, .string avl, .int .i64 arv] 23)) (And.intro (hk2.alloc (.cells #[.int .i64 akd, .int .i64 acl, .int .i64 asq, .string aky, .string avl, .int .i64 arv] 23)) (hcu.alloc hcu.size (.cells #[.int .i64 akd, .int .i64 acl, .int .i64 asq, .string aky, .string avl, .int .i64 arv] 23))))); clear HTK hb1 hk1 hk2 hcu HK1 HK2 HCU) | (go_at_call 9; refine (HC2.out _).mono ?_; rintro e w3 ⟨rfl, hb1⟩; have hk1 := HN.out.2.1.bel hb1; have hk3 := HN.out.1.bel hb1; have hcu := bel_trans HN.out.2.2.2 hb1; obtain ⟨p0, p1, p2, p3, p4, p5⟩ := blk6 hk1; obtain ⟨q0, q1, q2, q3, q4, q5⟩ := blk6 hk3; have HCU := Lib.hid hcu; clear HC2 hb1 hk1 hk3 hcu) | (go_at_call 8; refine (HA.out _).mono ?_; rintro e w4 ⟨rfl, hb1⟩; have hcu := bel_trans HCU.out hb1; replace HCU := Lib.hid hcu; clear hb1 hcu HA))
      go_ret
      exact ⟨rfl, HCU.out⟩
end Go.Proofs.Ytiiaealbkimlfaa
