/-
  The walk of the statement CmdChecks.
-/
import Derived.Test.YtiiaealbkimlfaaCmdAwake
import Derived.Test.YtiiaealbkimlfaaCmdRefCheck
import Derived.Test.YtiiaealbkimlfaaCmdRefMeet
import Derived.Deep.RegionHeld3
namespace Go.Proofs.Ytiiaealbkimlfaa
open Go.RowKit Mem Run Cmd


theorem held12 {w w' : World} {g h : Nat} {t u : TypeId} {a b c d e f a' b' c' d' e' f' : Value} (h1 : Blk w g t #[a, b, c, d, e, f]) (h2 : Blk w h u #[a', b', c', d', e', f']) (hb : Below w.heap.size w w') :
    w'.cell? ⟨g, 0, none⟩ = some a ∧ w'.cell? ⟨g, 1, none⟩ = some b ∧ w'.cell? ⟨g, 2, none⟩ = some c ∧ w'.cell? ⟨g, 3, none⟩ = some d ∧ w'.cell? ⟨g, 4, none⟩ = some e ∧ w'.cell? ⟨g, 5, none⟩ = some f ∧
    w'.cell? ⟨h, 0, none⟩ = some a' ∧ w'.cell? ⟨h, 1, none⟩ = some b' ∧ w'.cell? ⟨h, 2, none⟩ = some c' ∧ w'.cell? ⟨h, 3, none⟩ = some d' ∧ w'.cell? ⟨h, 4, none⟩ = some e' ∧ w'.cell? ⟨h, 5, none⟩ = some f' := by
  obtain ⟨x0, x1, x2, x3, x4, x5⟩ := blk6 (h1.bel hb)
  obtain ⟨y0, y1, y2, y3, y4, y5⟩ := blk6 (h2.bel hb)
  exact ⟨x0, x1, x2, x3, x4, x5, y0, y1, y2, y3, y4, y5⟩

theorem great_key {c : Cm} (h : great c = false) : c.ky.size ≤ 200 ∧ c.vl.size ≤ 2000 := by
  simp only [great, Bool.or_eq_false_iff, decide_eq_false_iff_not] at h
  omega

set_option maxRecDepth 100000 in
set_option maxHeartbeats 8000000 in
theorem cmdchecks_true (akd acl asq : Int) (aky avl : ByteArray) (arv : Int) (bkd bcl bsq : Int) (bky bvl : ByteArray) (brv : Int) (w : World) :
    Calls Try.prog 3 #[.agg #[.int .i64 akd, .int .i64 acl, .int .i64 asq, .string aky, .string avl, .int .i64 arv], .agg #[.int .i64 bkd, .int .i64 bcl, .int .i64 bsq, .string bky, .string bvl, .int .i64 brv]] w (Tells true w) := by
  have HA := Lib.hid awake_any
  have g1 := fun w => great_any akd acl asq aky avl arv w
  have g2 := fun w => great_any bkd bcl bsq bky bvl brv w
  have hky := great_key (c := ⟨akd, acl, asq, aky, avl, arv⟩)
  have c2 := fun (h : aky.size ≤ 1073741824) w => refcheck_any akd acl asq aky avl arv w h
  have c1 := fun w => check_any akd acl asq aky avl arv w
  have m1 := fun w => meet_any akd acl asq aky avl arv bkd bcl bsq bky bvl brv w
  have m2 := fun w => refmeet_any akd acl asq aky avl arv bkd bcl bsq bky bvl brv w
  have m3 := fun w => meet_any bkd bcl bsq bky bvl brv akd acl asq aky avl arv w
  have w1 := fun w => writes_any akd acl asq aky avl arv w
  have w2 := fun w => refwrites_any akd acl asq aky avl arv w
  rw [meet_comm ⟨bkd, bcl, bsq, bky, bvl, brv⟩ ⟨akd, acl, asq, aky, avl, arv⟩] at m3
  generalize great ⟨akd, acl, asq, aky, avl, arv⟩ = r1 at g1 hky
  generalize great ⟨bkd, bcl, bsq, bky, bvl, brv⟩ = r2 at g2
  generalize chk ⟨akd, acl, asq, aky, avl, arv⟩ = v at c1 c2
  generalize meet ⟨akd, acl, asq, aky, avl, arv⟩ ⟨bkd, bcl, bsq, bky, bvl, brv⟩ = m at m1 m2 m3
  generalize writes akd = wr at w1 w2
  have HG1 := Lib.hid g1
  have HG2 := Lib.hid g2
  obtain ⟨hk1, hk2, hcu⟩ := two_boxes w 23 #[.int .i64 akd, .int .i64 acl, .int .i64 asq, .string aky, .string avl, .int .i64 arv] #[.int .i64 bkd, .int .i64 bcl, .int .i64 bsq, .string bky, .string bvl, .int .i64 brv]
  have HK1 := Lib.hid hk1
  have HK2 := Lib.hid hk2
  have HCU := Lib.hid hcu
  clear hk1 hk2 hcu g1 g2
  go_enter Try.func3, Try.ntmps3
  cases r1
  case true =>
    clear c1 c2 m1 m2 m3 w1 w2 hky
    go_wp2_with (first | (go_at_call 7; refine (HG1.out _).mono ?_; rintro e w1 ⟨rfl, hb1⟩; have hk1 := HK1.out.bel hb1; have hk2 := HK2.out.bel hb1; have hcu := bel_trans HCU.out hb1; obtain ⟨p0, p1, p2, p3, p4, p5⟩ := blk6 hk1; obtain ⟨q0, q1, q2, q3, q4, q5⟩ := blk6 hk2; replace HK1 := Lib.hid hk1; replace HK2 := Lib.hid hk2; replace HCU := Lib.hid hcu; clear HG1 hb1 hk1 hk2 hcu) | (go_at_call 8; refine (HA.out _).mono ?_; rintro e w1 ⟨rfl, hb1⟩; have hk1 := HK1.out.bel hb1; have hk2 := HK2.out.bel hb1; have hcu := bel_trans HCU.out hb1; obtain ⟨p0, p1, p2, p3, p4, p5⟩ := blk6 hk1; obtain ⟨q0, q1, q2, q3, q4, q5⟩ := blk6 hk2; replace HK1 := Lib.hid hk1; replace HK2 := Lib.hid hk2; replace HCU := Lib.hid hcu; clear HA hb1 hk1 hk2 hcu))
    go_ret
    exact ⟨rfl, HCU.out⟩
  cases r2
  case true =>
    clear c1 c2 m1 m2 m3 w1 w2 hky
    go_wp2_with (first | (go_at_call 7; refine (HG1.out _).mono ?_; rintro e w1 ⟨rfl, hb1⟩; have hk1 := HK1.out.bel hb1; have hk2 := HK2.out.bel hb1; have hcu := bel_trans HCU.out hb1; obtain ⟨p0, p1, p2, p3, p4, p5⟩ := blk6 hk1; obtain ⟨q0, q1, q2, q3, q4, q5⟩ := blk6 hk2; replace HK1 := Lib.hid hk1; replace HK2 := Lib.hid hk2; replace HCU := Lib.hid hcu; clear HG1 hb1 hk1 hk2 hcu) | (go_at_call 7; refine (HG2.out _).mono ?_; rintro e w1 ⟨rfl, hb1⟩; have hk1 := HK1.out.bel hb1; have hk2 := HK2.out.bel hb1; have hcu := bel_trans HCU.out hb1; obtain ⟨p0, p1, p2, p3, p4, p5⟩ := blk6 hk1; obtain ⟨q0, q1, q2, q3, q4, q5⟩ := blk6 hk2; replace HK1 := Lib.hid hk1; replace HK2 := Lib.hid hk2; replace HCU := Lib.hid hcu; clear HG2 hb1 hk1 hk2 hcu) | (go_at_call 8; refine (HA.out _).mono ?_; rintro e w1 ⟨rfl, hb1⟩; have hk1 := HK1.out.bel hb1; have hk2 := HK2.out.bel hb1; have hcu := bel_trans HCU.out hb1; obtain ⟨p0, p1, p2, p3, p4, p5⟩ := blk6 hk1; obtain ⟨q0, q1, q2, q3, q4, q5⟩ := blk6 hk2; replace HK1 := Lib.hid hk1; replace HK2 := Lib.hid hk2; replace HCU := Lib.hid hcu; clear HA hb1 hk1 hk2 hcu))
    go_ret
    exact ⟨rfl, HCU.out⟩
  have h200 := (hky rfl).1
  have c3 := c2 (Nat.le_trans h200 (by decide))
  have HC1 := Lib.hid c1
  have HC2 := Lib.hid c3
  have HW1 := Lib.hid w1
  have HW2 := Lib.hid w2
  have HM1 := Lib.hid m1
  have HM2 := Lib.hid m2
  have HM3 := Lib.hid m1
  have HM4 := Lib.hid m3
  clear c1 c2 c3 m1 m2 m3 w1 w2 hky h200
  go_wp2_with (first | (go_at_call 7; refine (HG1.out _).mono ?_; rintro e w1 ⟨rfl, hb1⟩; have hk1 := HK1.out.bel hb1; have hk2 := HK2.out.bel hb1; have hcu := bel_trans HCU.out hb1; obtain ⟨p0, p1, p2, p3, p4, p5⟩ := blk6 hk1; obtain ⟨q0, q1, q2, q3, q4, q5⟩ := blk6 hk2; replace HK1 := Lib.hid hk1; replace HK2 := Lib.hid hk2; replace HCU := Lib.hid hcu; clear HG1 hb1 hk1 hk2 hcu) | (go_at_call 7; refine (HG2.out _).mono ?_; rintro e w1 ⟨rfl, hb1⟩; have hk1 := HK1.out.bel hb1; have hk2 := HK2.out.bel hb1; have hcu := bel_trans HCU.out hb1; obtain ⟨p0, p1, p2, p3, p4, p5⟩ := blk6 hk1; obtain ⟨q0, q1, q2, q3, q4, q5⟩ := blk6 hk2; replace HK1 := Lib.hid hk1; replace HK2 := Lib.hid hk2; replace HCU := Lib.hid hcu; clear HG2 hb1 hk1 hk2 hcu))
  have HCUR := Lib.hid (Below.drew (Below.refl w1.heap.size w1))
  go_region_held3 (fun w' => w'.cell? ⟨w.heap.size, 0, none⟩ = some (.int .i64 akd) ∧ w'.cell? ⟨w.heap.size, 1, none⟩ = some (.int .i64 acl) ∧ w'.cell? ⟨w.heap.size, 2, none⟩ = some (.int .i64 asq) ∧ w'.cell? ⟨w.heap.size, 3, none⟩ = some (.string aky) ∧ w'.cell? ⟨w.heap.size, 4, none⟩ = some (.string avl) ∧ w'.cell? ⟨w.heap.size, 5, none⟩ = some (.int .i64 arv) ∧ w'.cell? ⟨w.heap.size + 1, 0, none⟩ = some (.int .i64 bkd) ∧ w'.cell? ⟨w.heap.size + 1, 1, none⟩ = some (.int .i64 bcl) ∧ w'.cell? ⟨w.heap.size + 1, 2, none⟩ = some (.int .i64 bsq) ∧ w'.cell? ⟨w.heap.size + 1, 3, none⟩ = some (.string bky) ∧ w'.cell? ⟨w.heap.size + 1, 4, none⟩ = some (.string bvl) ∧ w'.cell? ⟨w.heap.size + 1, 5, none⟩ = some (.int .i64 brv)) (exact held12 HK1.out HK2.out HCUR.out)
    (first
    | (go_at_call 9
       refine (HC1.out _).mono ?_
       rintro e v1 ⟨rfl, hb1⟩
       have hnow := HCUR.out.trans (hb1.mono HCUR.out.size)
       replace HCUR := Lib.hid hnow
       clear HC1 hb1 hnow)
    | (go_at_call 10
       refine (HC2.out _).mono ?_
       rintro e v1 ⟨rfl, hb1⟩
       have hnow := HCUR.out.trans (hb1.mono HCUR.out.size)
       replace HCUR := Lib.hid hnow
       clear HC2 hb1 hnow)
    | (go_at_call 11
       refine (HW1.out _).mono ?_
       rintro e v1 ⟨rfl, hb1⟩
       have hnow := HCUR.out.trans (hb1.mono HCUR.out.size)
       replace HCUR := Lib.hid hnow
       clear HW1 hb1 hnow)
    | (go_at_call 12
       refine (HW2.out _).mono ?_
       rintro e v1 ⟨rfl, hb1⟩
       have hnow := HCUR.out.trans (hb1.mono HCUR.out.size)
       replace HCUR := Lib.hid hnow
       clear HW2 hb1 hnow)
    | (go_at_call 13
       refine (HM1.out _).mono ?_
       rintro e v1 ⟨rfl, hb1⟩
       have hnow := HCUR.out.trans (hb1.mono HCUR.out.size)
       replace HCUR := Lib.hid hnow
       clear HM1 hb1 hnow)
    | (go_at_call 14
       refine (HM2.out _).mono ?_
       rintro e v1 ⟨rfl, hb1⟩
       have hnow := HCUR.out.trans (hb1.mono HCUR.out.size)
       replace HCUR := Lib.hid hnow
       clear HM2 hb1 hnow)
    | (go_at_call 13
       refine (HM3.out _).mono ?_
       rintro e v1 ⟨rfl, hb1⟩
       have hnow := HCUR.out.trans (hb1.mono HCUR.out.size)
       replace HCUR := Lib.hid hnow
       clear HM3 hb1 hnow)
    | (go_at_call 13
       refine (HM4.out _).mono ?_
       rintro e v1 ⟨rfl, hb1⟩
       have hnow := HCUR.out.trans (hb1.mono HCUR.out.size)
       replace HCUR := Lib.hid hnow
       clear HM4 hb1 hnow)
    | (go_at_call 8
       refine (HA.out _).mono ?_
       rintro e v1 ⟨rfl, hb1⟩
       have hnow := HCUR.out.trans (hb1.mono HCUR.out.size)
       replace HCUR := Lib.hid hnow
       clear HA hb1 hnow))
  go_wp2_with fail
  go_ret
  exact ⟨rfl, bel_trans HCU.out HCUR.out⟩
end Go.Proofs.Ytiiaealbkimlfaa
