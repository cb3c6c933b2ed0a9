/-
  Texts of earlier layers, as one.
-/
import Derived.Test.YthlhchaoedcdbaaGreatDoorRCmd
import Derived.BigRegion
import Derived.Deep.Cut
/- The document's Meet. -/
namespace Go.Proofs.YthlhchaoedcdbaaGreatDoor.Cw
open Lib (hid)
open Go.RowKit Mem Run Cmd
end Go.Proofs.YthlhchaoedcdbaaGreatDoor.Cw
/- The document's Check. -/
namespace Go.Proofs.YthlhchaoedcdbaaGreatDoor.Cw
open Lib (hid)
open Go.RowKit Mem Run Cmd
theorem chk_bools (kd cl sq : Int) (ky vl : ByteArray) (rv : Int) : chk ⟨kd, cl, sq, ky, vl, rv⟩ = if (decide (kd < 0) || decide (kd > 6) || (!(kd != 0 && kd != 6) && (!(cl == 0) || !(sq == 0) || !decide (bts ky = []))) || ((kd != 0 && kd != 6) && (cl == 0 || sq == 0)) || (kd != 2 && kd != 4 && !decide (bts vl = [])) || (kd != 4 && !(rv == 0))) = true then 4 else if (decide (cl < 0) || decide (cl > 1048576) || (decide (sq < 0) || decide (sq > 1099511627776)) || (decide (rv < 0) || decide (rv > 1099511627776))) = true then 6 else if decide ((vl.size : Int) > 1024) = true then 12 else if (kd == 5) = true then begRet (beg (bts ky)) else if (kd != 0 && kd != 6) = true then begRet (key (bts ky)) else 0 := rfl
theorem toList_bts (s : ByteArray) : s.toList = [] ↔ bts s = [] := by
 have h := toList_iff s ⟨#[]⟩;rwa [show (⟨#[]⟩ : ByteArray).toList = [] from by rw [Lib.toList_data], show bts ⟨#[]⟩ = [] from rfl] at h
set_option maxRecDepth 10000 in
set_option maxHeartbeats 16000000 in
theorem refcheck_any (kd cl sq : Int) (ky vl : ByteArray) (rv : Int) (w : World) (hs : ky.size ≤ 1073741824) :
 Calls Tryz.prog 55 #[.agg #[.int .i64 kd, .int .i64 cl, .int .i64 sq, .string ky, .string vl, .int .i64 rv]] w (Checks (chk ⟨kd, cl, sq, ky, vl, rv⟩) w) := by
 rw [chk_bools];have HBG := hid (fun w => refbegin_any ky hs w);have HKY := hid (fun w => refkey_any ky hs w);have hk1 := Blk.new w 27 #[.int .i64 kd, .int .i64 cl, .int .i64 sq, .string ky, .string vl, .int .i64 rv];have hcu := bel_alloc (Below.refl w.heap.size w) (.cells #[.int .i64 kd, .int .i64 cl, .int .i64 sq, .string ky, .string vl, .int .i64 rv] 27);have HK1 := hid hk1;have HCU := hid hcu;clear hk1 hcu hs;have HKE := hid (toList_bts ky);have HVE := hid (toList_bts vl);obtain ⟨n1, h_n1⟩ : ∃ b, (decide (kd < 0)) = b := ⟨_, rfl⟩
 obtain ⟨n2, h_n2⟩ : ∃ b, (decide (kd > 6)) = b := ⟨_, rfl⟩
 obtain ⟨x0, h_x0⟩ : ∃ b, (kd != 0) = b := ⟨_, rfl⟩
 obtain ⟨x6, h_x6⟩ : ∃ b, (kd != 6) = b := ⟨_, rfl⟩
 obtain ⟨cz, h_cz⟩ : ∃ b, (cl == 0) = b := ⟨_, rfl⟩
 obtain ⟨sz, h_sz⟩ : ∃ b, (sq == 0) = b := ⟨_, rfl⟩
 obtain ⟨e, h_e⟩ : ∃ b, (decide (bts ky = [])) = b := ⟨_, rfl⟩
 obtain ⟨x2, h_x2⟩ : ∃ b, (kd != 2) = b := ⟨_, rfl⟩
 obtain ⟨x4, h_x4⟩ : ∃ b, (kd != 4) = b := ⟨_, rfl⟩
 obtain ⟨v, h_v⟩ : ∃ b, (decide (bts vl = [])) = b := ⟨_, rfl⟩
 obtain ⟨rz, h_rz⟩ : ∃ b, (rv == 0) = b := ⟨_, rfl⟩
 obtain ⟨c1, h_c1⟩ : ∃ b, (decide (cl < 0)) = b := ⟨_, rfl⟩
 obtain ⟨c2, h_c2⟩ : ∃ b, (decide (cl > 1048576)) = b := ⟨_, rfl⟩
 obtain ⟨s1, h_s1⟩ : ∃ b, (decide (sq < 0)) = b := ⟨_, rfl⟩
 obtain ⟨s2, h_s2⟩ : ∃ b, (decide (sq > 1099511627776)) = b := ⟨_, rfl⟩
 obtain ⟨r1, h_r1⟩ : ∃ b, (decide (rv < 0)) = b := ⟨_, rfl⟩
 obtain ⟨r2, h_r2⟩ : ∃ b, (decide (rv > 1099511627776)) = b := ⟨_, rfl⟩
 obtain ⟨l, h_l⟩ : ∃ b, (decide ((vl.size : Int) > 1024)) = b := ⟨_, rfl⟩
 obtain ⟨x5, h_x5⟩ : ∃ b, (kd == 5) = b := ⟨_, rfl⟩
 generalize beg (bts ky) = gb at HBG ⊢;generalize key (bts ky) = gk at HKY ⊢;rw [h_n1, h_n2, h_x0, h_x6, h_cz, h_sz, h_e, h_x2, h_x4, h_v, h_rz, h_c1, h_c2, h_s1, h_s2, h_r1, h_r2, h_l, h_x5];go_enter Tryz.func55, Tryz.ntmps55
 cases n1
 case true =>
  go_wp2_with fail
  go_ret;exact ⟨rfl, HCU.out⟩
 case false =>
  cases n2
  case true =>
   go_wp2_with fail
   go_ret;exact ⟨rfl, HCU.out⟩
  case false =>
   cases x0
   case true =>
    cases x6
    case true =>
     go_upto_region 4 with fail
     cases cz
     case true =>
      have g_cz : cl = 0 := (by simpa using h_cz);subst g_cz;have g_c1 : c1 = false := h_c1.symm;subst g_c1;have g_c2 : c2 = false := h_c2.symm;subst g_c2;go_wp2_with fail
      go_ret;exact ⟨rfl, HCU.out⟩
     case false =>
      have g_cz : (cl != 0) = true := (by rw [bne, h_cz]; rfl);cases sz
      case true =>
       have g_sz : sq = 0 := (by simpa using h_sz);subst g_sz;have g_s1 : s1 = false := h_s1.symm;subst g_s1;have g_s2 : s2 = false := h_s2.symm;subst g_s2;go_wp2_with fail
       go_ret;exact ⟨rfl, HCU.out⟩
      case false =>
       have g_sz : (sq != 0) = true := (by rw [bne, h_sz]; rfl);go_upto_region 6 with fail
       cases x2
       case true =>
        cases x4
        case true =>
         cases v
         case true =>
          have g_v : vl.toList = [] := HVE.out.2 (of_decide_eq_true h_v);have g_v' : vl.toList.isEmpty = true := (by rw [g_v]; rfl);cases rz
          case true =>
           have g_rz : rv = 0 := (by simpa using h_rz);subst g_rz;have g_r1 : r1 = false := h_r1.symm;subst g_r1;have g_r2 : r2 = false := h_r2.symm;subst g_r2;go_upto_region 8 with fail
           cases c1
           case true =>
            go_wp2_with fail
            go_ret;exact ⟨rfl, HCU.out⟩
           case false =>
            cases c2
            case true =>
             go_wp2_with fail
             go_ret;exact ⟨rfl, HCU.out⟩
            case false =>
             cases s1
             case true =>
              go_wp2_with fail
              go_ret;exact ⟨rfl, HCU.out⟩
             case false =>
              cases s2
              case true =>
               go_wp2_with fail
               go_ret;exact ⟨rfl, HCU.out⟩
              case false =>
               go_upto_region 10 with fail
               cases l
               case true =>
                go_wp2_with fail
                go_ret;exact ⟨rfl, HCU.out⟩
               case false =>
                go_upto_region 12 with fail
                cases x5
                case true =>
                 have g_x5 : kd = 5 := (by simpa using h_x5);subst g_x5;cases gb
                 case true =>
                  go_wp2_with (first | (go_at_call 102; refine (HBG.out _).mono ?_; rintro e w1 ⟨rfl, hb1⟩; have hk1 := HK1.out.bel hb1; have hcu := bel_trans HCU.out hb1; obtain ⟨p0, p1, p2, p3, p4, p5⟩ := blk6 hk1; replace HK1 := hid hk1; replace HCU := hid hcu; clear HBG hb1 hk1 hcu) | (go_at_call 103; refine (HKY.out _).mono ?_; rintro e w1 ⟨rfl, hb1⟩; have hk1 := HK1.out.bel hb1; have hcu := bel_trans HCU.out hb1; obtain ⟨p0, p1, p2, p3, p4, p5⟩ := blk6 hk1; replace HK1 := hid hk1; replace HCU := hid hcu; clear HKY hb1 hk1 hcu))
                  go_ret;exact ⟨rfl, HCU.out⟩
                 case false =>
                  go_wp2_with (first | (go_at_call 102; refine (HBG.out _).mono ?_; rintro e w1 ⟨rfl, hb1⟩; have hk1 := HK1.out.bel hb1; have hcu := bel_trans HCU.out hb1; obtain ⟨p0, p1, p2, p3, p4, p5⟩ := blk6 hk1; replace HK1 := hid hk1; replace HCU := hid hcu; clear HBG hb1 hk1 hcu) | (go_at_call 103; refine (HKY.out _).mono ?_; rintro e w1 ⟨rfl, hb1⟩; have hk1 := HK1.out.bel hb1; have hcu := bel_trans HCU.out hb1; obtain ⟨p0, p1, p2, p3, p4, p5⟩ := blk6 hk1; replace HK1 := hid hk1; replace HCU := hid hcu; clear HKY hb1 hk1 hcu))
                  go_ret;exact ⟨rfl, HCU.out⟩
                case false =>
                 have g_x5 : (kd != 5) = true := (by rw [bne, h_x5]; rfl);cases gk
                 case true =>
                  go_wp2_with (first | (go_at_call 102; refine (HBG.out _).mono ?_; rintro e w1 ⟨rfl, hb1⟩; have hk1 := HK1.out.bel hb1; have hcu := bel_trans HCU.out hb1; obtain ⟨p0, p1, p2, p3, p4, p5⟩ := blk6 hk1; replace HK1 := hid hk1; replace HCU := hid hcu; clear HBG hb1 hk1 hcu) | (go_at_call 103; refine (HKY.out _).mono ?_; rintro e w1 ⟨rfl, hb1⟩; have hk1 := HK1.out.bel hb1; have hcu := bel_trans HCU.out hb1; obtain ⟨p0, p1, p2, p3, p4, p5⟩ := blk6 hk1; replace HK1 := hid hk1; replace HCU := hid hcu; clear HKY hb1 hk1 hcu))
                  go_ret;exact ⟨rfl, HCU.out⟩
                 case false =>
                  go_wp2_with (first | (go_at_call 102; refine (HBG.out _).mono ?_; rintro e w1 ⟨rfl, hb1⟩; have hk1 := HK1.out.bel hb1; have hcu := bel_trans HCU.out hb1; obtain ⟨p0, p1, p2, p3, p4, p5⟩ := blk6 hk1; replace HK1 := hid hk1; replace HCU := hid hcu; clear HBG hb1 hk1 hcu) | (go_at_call 103; refine (HKY.out _).mono ?_; rintro e w1 ⟨rfl, hb1⟩; have hk1 := HK1.out.bel hb1; have hcu := bel_trans HCU.out hb1; obtain ⟨p0, p1, p2, p3, p4, p5⟩ := blk6 hk1; replace HK1 := hid hk1; replace HCU := hid hcu; clear HKY hb1 hk1 hcu))
                  go_ret;exact ⟨rfl, HCU.out⟩
          case false =>
           have g_rz : (rv != 0) = true := (by rw [bne, h_rz]; rfl);go_wp2_with fail
           go_ret;exact ⟨rfl, HCU.out⟩
         case false =>
          have g_v : ¬ vl.toList = [] := fun h => of_decide_eq_false h_v (HVE.out.1 h);have g_v' : vl.toList.isEmpty = false := (by rw [List.isEmpty_eq_false_iff]; exact g_v);go_wp2_with fail
          go_ret;exact ⟨rfl, HCU.out⟩
        case false =>
         have g_x4 : kd = 4 := (by simpa using h_x4);subst g_x4;have g_x5 : x5 = false := h_x5.symm;subst g_x5;go_upto_region 8 with fail
         cases c1
         case true =>
          go_wp2_with fail
          go_ret;exact ⟨rfl, HCU.out⟩
         case false =>
          cases c2
          case true =>
           go_wp2_with fail
           go_ret;exact ⟨rfl, HCU.out⟩
          case false =>
           cases s1
           case true =>
            go_wp2_with fail
            go_ret;exact ⟨rfl, HCU.out⟩
           case false =>
            cases s2
            case true =>
             go_wp2_with fail
             go_ret;exact ⟨rfl, HCU.out⟩
            case false =>
             cases r1
             case true =>
              go_wp2_with fail
              go_ret;exact ⟨rfl, HCU.out⟩
             case false =>
              cases r2
              case true =>
               go_wp2_with fail
               go_ret;exact ⟨rfl, HCU.out⟩
              case false =>
               go_upto_region 10 with fail
               cases l
               case true =>
                go_wp2_with fail
                go_ret;exact ⟨rfl, HCU.out⟩
               case false =>
                go_upto_region 12 with fail
                cases gk
                case true =>
                 go_wp2_with (first | (go_at_call 102; refine (HBG.out _).mono ?_; rintro e w1 ⟨rfl, hb1⟩; have hk1 := HK1.out.bel hb1; have hcu := bel_trans HCU.out hb1; obtain ⟨p0, p1, p2, p3, p4, p5⟩ := blk6 hk1; replace HK1 := hid hk1; replace HCU := hid hcu; clear HBG hb1 hk1 hcu) | (go_at_call 103; refine (HKY.out _).mono ?_; rintro e w1 ⟨rfl, hb1⟩; have hk1 := HK1.out.bel hb1; have hcu := bel_trans HCU.out hb1; obtain ⟨p0, p1, p2, p3, p4, p5⟩ := blk6 hk1; replace HK1 := hid hk1; replace HCU := hid hcu; clear HKY hb1 hk1 hcu))
                 go_ret;exact ⟨rfl, HCU.out⟩
                case false =>
                 go_wp2_with (first | (go_at_call 102; refine (HBG.out _).mono ?_; rintro e w1 ⟨rfl, hb1⟩; have hk1 := HK1.out.bel hb1; have hcu := bel_trans HCU.out hb1; obtain ⟨p0, p1, p2, p3, p4, p5⟩ := blk6 hk1; replace HK1 := hid hk1; replace HCU := hid hcu; clear HBG hb1 hk1 hcu) | (go_at_call 103; refine (HKY.out _).mono ?_; rintro e w1 ⟨rfl, hb1⟩; have hk1 := HK1.out.bel hb1; have hcu := bel_trans HCU.out hb1; obtain ⟨p0, p1, p2, p3, p4, p5⟩ := blk6 hk1; replace HK1 := hid hk1; replace HCU := hid hcu; clear HKY hb1 hk1 hcu))
                 go_ret;exact ⟨rfl, HCU.out⟩
       case false =>
        have g_x2 : kd = 2 := (by simpa using h_x2);subst g_x2;have g_x4 : x4 = true := h_x4.symm;subst g_x4;have g_x5 : x5 = false := h_x5.symm;subst g_x5;cases rz
        case true =>
         have g_rz : rv = 0 := (by simpa using h_rz);subst g_rz;have g_r1 : r1 = false := h_r1.symm;subst g_r1;have g_r2 : r2 = false := h_r2.symm;subst g_r2;go_upto_region 8 with fail
         cases c1
         case true =>
          go_wp2_with fail
          go_ret;exact ⟨rfl, HCU.out⟩
         case false =>
          cases c2
          case true =>
           go_wp2_with fail
           go_ret;exact ⟨rfl, HCU.out⟩
          case false =>
           cases s1
           case true =>
            go_wp2_with fail
            go_ret;exact ⟨rfl, HCU.out⟩
           case false =>
            cases s2
            case true =>
             go_wp2_with fail
             go_ret;exact ⟨rfl, HCU.out⟩
            case false =>
             go_upto_region 10 with fail
             cases l
             case true =>
              go_wp2_with fail
              go_ret;exact ⟨rfl, HCU.out⟩
             case false =>
              go_upto_region 12 with fail
              cases gk
              case true =>
               go_wp2_with (first | (go_at_call 102; refine (HBG.out _).mono ?_; rintro e w1 ⟨rfl, hb1⟩; have hk1 := HK1.out.bel hb1; have hcu := bel_trans HCU.out hb1; obtain ⟨p0, p1, p2, p3, p4, p5⟩ := blk6 hk1; replace HK1 := hid hk1; replace HCU := hid hcu; clear HBG hb1 hk1 hcu) | (go_at_call 103; refine (HKY.out _).mono ?_; rintro e w1 ⟨rfl, hb1⟩; have hk1 := HK1.out.bel hb1; have hcu := bel_trans HCU.out hb1; obtain ⟨p0, p1, p2, p3, p4, p5⟩ := blk6 hk1; replace HK1 := hid hk1; replace HCU := hid hcu; clear HKY hb1 hk1 hcu))
               go_ret;exact ⟨rfl, HCU.out⟩
              case false =>
               go_wp2_with (first | (go_at_call 102; refine (HBG.out _).mono ?_; rintro e w1 ⟨rfl, hb1⟩; have hk1 := HK1.out.bel hb1; have hcu := bel_trans HCU.out hb1; obtain ⟨p0, p1, p2, p3, p4, p5⟩ := blk6 hk1; replace HK1 := hid hk1; replace HCU := hid hcu; clear HBG hb1 hk1 hcu) | (go_at_call 103; refine (HKY.out _).mono ?_; rintro e w1 ⟨rfl, hb1⟩; have hk1 := HK1.out.bel hb1; have hcu := bel_trans HCU.out hb1; obtain ⟨p0, p1, p2, p3, p4, p5⟩ := blk6 hk1; replace HK1 := hid hk1; replace HCU := hid hcu; clear HKY hb1 hk1 hcu))
               go_ret;exact ⟨rfl, HCU.out⟩
        case false =>
         have g_rz : (rv != 0) = true := (by rw [bne, h_rz]; rfl);go_wp2_with fail
         go_ret;exact ⟨rfl, HCU.out⟩
    case false =>
     have g_x6 : kd = 6 := (by simpa using h_x6);subst g_x6;have g_x2 : x2 = true := h_x2.symm;subst g_x2;have g_x4 : x4 = true := h_x4.symm;subst g_x4;have g_x5 : x5 = false := h_x5.symm;subst g_x5;go_upto_region 4 with fail
     cases cz
     case true =>
      have g_cz : cl = 0 := (by simpa using h_cz);subst g_cz;have g_c1 : c1 = false := h_c1.symm;subst g_c1;have g_c2 : c2 = false := h_c2.symm;subst g_c2;cases sz
      case true =>
       have g_sz : sq = 0 := (by simpa using h_sz);subst g_sz;have g_s1 : s1 = false := h_s1.symm;subst g_s1;have g_s2 : s2 = false := h_s2.symm;subst g_s2;cases e
       case true =>
        have g_e : ky.toList = [] := HKE.out.2 (of_decide_eq_true h_e);have g_e' : ky.toList.isEmpty = true := (by rw [g_e]; rfl);go_upto_region 6 with fail
        cases v
        case true =>
         have g_v : vl.toList = [] := HVE.out.2 (of_decide_eq_true h_v);have g_v' : vl.toList.isEmpty = true := (by rw [g_v]; rfl);cases rz
         case true =>
          have g_rz : rv = 0 := (by simpa using h_rz);subst g_rz;have g_r1 : r1 = false := h_r1.symm;subst g_r1;have g_r2 : r2 = false := h_r2.symm;subst g_r2;go_upto_region 10 with fail
          cases l
          case true =>
           go_wp2_with fail
           go_ret;exact ⟨rfl, HCU.out⟩
          case false =>
           go_wp2_with fail
           go_ret;exact ⟨rfl, HCU.out⟩
         case false =>
          have g_rz : (rv != 0) = true := (by rw [bne, h_rz]; rfl);go_wp2_with fail
          go_ret;exact ⟨rfl, HCU.out⟩
        case false =>
         have g_v : ¬ vl.toList = [] := fun h => of_decide_eq_false h_v (HVE.out.1 h);have g_v' : vl.toList.isEmpty = false := (by rw [List.isEmpty_eq_false_iff]; exact g_v);go_wp2_with fail
         go_ret;exact ⟨rfl, HCU.out⟩
       case false =>
        have g_e : ¬ ky.toList = [] := fun h => of_decide_eq_false h_e (HKE.out.1 h);have g_e' : ky.toList.isEmpty = false := (by rw [List.isEmpty_eq_false_iff]; exact g_e);go_wp2_with fail
        go_ret;exact ⟨rfl, HCU.out⟩
      case false =>
       have g_sz : (sq != 0) = true := (by rw [bne, h_sz]; rfl);go_wp2_with fail
       go_ret;exact ⟨rfl, HCU.out⟩
     case false =>
      have g_cz : (cl != 0) = true := (by rw [bne, h_cz]; rfl);go_wp2_with fail
      go_ret;exact ⟨rfl, HCU.out⟩
   case false =>
    have g_x0 : kd = 0 := (by simpa using h_x0);subst g_x0;have g_x6 : x6 = true := h_x6.symm;subst g_x6;have g_x2 : x2 = true := h_x2.symm;subst g_x2;have g_x4 : x4 = true := h_x4.symm;subst g_x4;have g_x5 : x5 = false := h_x5.symm;subst g_x5;go_upto_region 4 with fail
    cases cz
    case true =>
     have g_cz : cl = 0 := (by simpa using h_cz);subst g_cz;have g_c1 : c1 = false := h_c1.symm;subst g_c1;have g_c2 : c2 = false := h_c2.symm;subst g_c2;cases sz
     case true =>
      have g_sz : sq = 0 := (by simpa using h_sz);subst g_sz;have g_s1 : s1 = false := h_s1.symm;subst g_s1;have g_s2 : s2 = false := h_s2.symm;subst g_s2;cases e
      case true =>
       have g_e : ky.toList = [] := HKE.out.2 (of_decide_eq_true h_e);have g_e' : ky.toList.isEmpty = true := (by rw [g_e]; rfl);go_upto_region 6 with fail
       cases v
       case true =>
        have g_v : vl.toList = [] := HVE.out.2 (of_decide_eq_true h_v);have g_v' : vl.toList.isEmpty = true := (by rw [g_v]; rfl);cases rz
        case true =>
         have g_rz : rv = 0 := (by simpa using h_rz);subst g_rz;have g_r1 : r1 = false := h_r1.symm;subst g_r1;have g_r2 : r2 = false := h_r2.symm;subst g_r2;go_upto_region 10 with fail
         cases l
         case true =>
          go_wp2_with fail
          go_ret;exact ⟨rfl, HCU.out⟩
         case false =>
          go_wp2_with fail
          go_ret;exact ⟨rfl, HCU.out⟩
        case false =>
         have g_rz : (rv != 0) = true := (by rw [bne, h_rz]; rfl);go_wp2_with fail
         go_ret;exact ⟨rfl, HCU.out⟩
       case false =>
        have g_v : ¬ vl.toList = [] := fun h => of_decide_eq_false h_v (HVE.out.1 h);have g_v' : vl.toList.isEmpty = false := (by rw [List.isEmpty_eq_false_iff]; exact g_v);go_wp2_with fail
        go_ret;exact ⟨rfl, HCU.out⟩
      case false =>
       have g_e : ¬ ky.toList = [] := fun h => of_decide_eq_false h_e (HKE.out.1 h);have g_e' : ky.toList.isEmpty = false := (by rw [List.isEmpty_eq_false_iff]; exact g_e);go_wp2_with fail
       go_ret;exact ⟨rfl, HCU.out⟩
     case false =>
      have g_sz : (sq != 0) = true := (by rw [bne, h_sz]; rfl);go_wp2_with fail
      go_ret;exact ⟨rfl, HCU.out⟩
    case false =>
     have g_cz : (cl != 0) = true := (by rw [bne, h_cz]; rfl);go_wp2_with fail
     go_ret;exact ⟨rfl, HCU.out⟩
end Go.Proofs.YthlhchaoedcdbaaGreatDoor.Cw
