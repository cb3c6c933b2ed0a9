/-
  Texts of earlier layers, as one.
-/
import Derived.Test.YtkejjdoaljoooaaGreatDoorSchA
import Derived.Test.YtkejjdoaljoooaaGreatDoorRIdsSet
import Derived.Maps.OwnOps
import Derived.Carry
/- What records needs to know, ahead of its walk: what is read so far; the ids that the map has; what a round leaves. -/
namespace Go.Proofs.YtkejjdoaljoooaaGreatDoor.Sc
open Lib (hid)
open Go.RowKit Mem Ids Rk Att Cod Go.Maps
theorem take_right {v : Nat} {x : It} {r : Rc} (h : take v x = some r) : rgt r = true := by
 unfold take at h;split at h
 · exact (oldTakeRc_iff.1 h).1.1
 · exact (takeRc_iff.1 h).1
theorem right_wf {r : Rc} (h : rgt r = true) : Wf r.id := by
 obtain ⟨h1, h2, _⟩ := rgt_parts h;exact ⟨WalkArith.wf_i64 (by omega), WalkArith.wf_i64 (by omega)⟩
noncomputable def recOf (v : Nat) (p : List Nat) : Option Rc := if Cp.getE p = 0 then take v (Cp.getX p) else none
theorem recs_cons (v : Nat) (p : List Nat) (t : List (List Nat)) : recsOf v (p :: t) = match recOf v p with
 | some r => (recsOf v t).map (r :: ·)
 | none => none := by
 show (match Cod.get p with
  | .ok x _ => match take v x with
    | some r => (recsOf v t).map (r :: ·)
    | none => none
  | .bad _ _ => none) = _
 unfold recOf;cases h : Cod.get p with
 | ok x q =>
   obtain ⟨h1, h2, _⟩ := Cp.get_parts_ok h;rw [h1, h2, if_pos rfl]
 | bad e q =>
   obtain ⟨_, h2, _⟩ := Cp.get_parts_bad h;rw [h2, if_neg (Cp.get_bad_ne h)]
theorem recs_append (v : Nat) (a b : List (List Nat)) : recsOf v (a ++ b) = (recsOf v a).bind fun x => (recsOf v b).map (x ++ ·) := by
 induction a with
 | nil =>
   show recsOf v b = (some []).bind _;simp
 | cons p a ih =>
   rw [List.cons_append, recs_cons, recs_cons];cases recOf v p with
   | none => rfl
   | some r =>
     simp only [ih];cases recsOf v a with
     | none => rfl
     | some x =>
       simp only [Option.bind_some, Option.map_some];cases recsOf v b <;> simp
theorem recs_snoc {v : Nat} {a : List (List Nat)} {x : List Rc} (h : recsOf v a = some x) (p : List Nat) : recsOf v (a ++ [p]) = (recOf v p).map fun r => x ++ [r] := by
 rw [recs_append, h, recs_cons];simp only [Option.bind_some];cases recOf v p with
 | none => rfl
 | some r => rfl
theorem recs_stop {v : Nat} {l : List (List Nat)} {k : Nat} {x : List Rc} {p : List Nat} (h : recsOf v (l.take k) = some x) (hp : l[k]? = some p) (hn : recOf v p = none) : recsOf v l = none := by
 have e : l = l.take k ++ ([p] ++ l.drop (k + 1)) := by
  have h1 : k < l.length := (List.getElem?_eq_some_iff.1 hp).1;have h2 : l[k] = p := (List.getElem?_eq_some_iff.1 hp).2;rw [List.singleton_append, ← h2, List.getElem_cons_drop, List.take_append_drop]
 rw [e, recs_append, h, List.singleton_append, recs_cons, hn];rfl
theorem recs_next {v : Nat} {l : List (List Nat)} {k : Nat} {x : List Rc} {p : List Nat} {r : Rc} (h : recsOf v (l.take k) = some x) (hp : l[k]? = some p) (hr : recOf v p = some r) : recsOf v (l.take (k + 1)) = some (x ++ [r]) := by
 rw [List.take_add_one, hp];show recsOf v (l.take k ++ [p]) = _;rw [recs_snoc h, hr];rfl
theorem kids_le {p : List Nat} (hb : ∀ b ∈ p, b < 256) (hl : p.length ≤ 1000000) : (Cp.getX p).kids.length ≤ 1000000000 := by
 cases h : Cod.get p with
 | ok x q =>
   rw [(Cp.get_parts_ok h).1];obtain ⟨h1, h2, h3⟩ := get_good hb h;have h4 := wt_le_form x 0 h1;rw [h3] at h4;have h5 := length_wts x.kids;rw [wt_eq] at h4;omega
 | bad e q =>
   rw [(Cp.get_parts_bad h).1];exact Nat.zero_le _
theorem all_ids {D : DataW Value} {qs : List Pt} {ys : List (Int × Int)} (h : AllIds D ys) (hD : Holds D qs) (hw : ∀ q ∈ qs, Wf (ptId q)) : ∀ i, i ∈ ys ↔ i ∈ qs.map ptId := by
 intro i;constructor
 · intro hi
   have hwi := h.1 i hi;have h1 := (h.2 i hwi).1 hi;rw [(hD.2 i hwi).1] at h1;obtain ⟨x, hx⟩ := Option.isSome_iff_exists.1 h1;obtain ⟨h2, h3⟩ := lastK_some ptId hx;exact List.mem_map.2 ⟨x, h2, h3⟩
 · intro hi
   obtain ⟨q, hq, rfl⟩ := List.mem_map.1 hi;refine (h.2 _ (hw q hq)).2 ?_;rw [(hD.2 _ (hw q hq)).1];cases e : lastK ptId qs (ptId q) with
   | none => exact absurd rfl (lastK_none ptId e q hq)
   | some x => rfl
def ofId (qs : List Pt) (i : Int × Int) : Pt := (lastK ptId qs i).getD zeroPt
theorem of_id {qs : List Pt} {i : Int × Int} (h : i ∈ qs.map ptId) : lastK ptId qs i = some (ofId qs i) ∧ ofId qs i ∈ qs := by
 obtain ⟨q, hq, rfl⟩ := List.mem_map.1 h;unfold ofId;cases e : lastK ptId qs (ptId q) with
 | none => exact absurd rfl (lastK_none ptId e q hq)
 | some x => exact ⟨rfl, (lastK_some ptId e).1⟩
theorem held_ids {qs : List Pt} {ys : List (Int × Int)} (h : ∀ i, i ∈ ys ↔ i ∈ qs.map ptId) : heldK ptId qs = (setl ys).map (ofId qs) := by
 rw [heldK_set ptId qs ys h]
 have : ∀ (l : List (Int × Int)), (∀ i ∈ l, i ∈ ys) → l.filterMap (lastK ptId qs) = l.map (ofId qs) := fun l hl => by
  induction l with
  | nil => rfl
  | cons i l ih =>
    rw [List.filterMap_cons, (of_id ((h i).1 (hl i (by simp)))).1, List.map_cons, ih fun j hj => hl j (by simp [hj])]
 exact this _ fun i hi => (mem_setl ys i).1 hi
theorem held_rc (qs : List Pt) : (heldK ptId qs).map (·.r) = heldK Rc.id (qs.map (·.r)) := heldK_map Rc.id (fun q : Pt => q.r) qs
theorem dep_turn {w w' : World} {q : Pt} {B b : Nat} (h : Dep w q) (hn : ∀ g o, q.V = some ⟨g, o, none⟩ → B ≤ g) (hg : w.grownBy w' (some b)) (hb : b < B) : Dep w' q :=
 Rs.grown h hg fun g o e e' => by
  injection e' with e';have := hn g o e;omega
theorem own_below {w w' : World} {b n : Nat} {D : DataW Value} (h : w.ownsMap Tryz.prog 34 heldV b n D) (hb : Below w.heap.size w w') : w'.ownsMap Tryz.prog 34 heldV b n D := h.kept (Cod.below_gr hb none) (by simp)
def RecsIs (o : Option (List Rc)) (w : World) (e : Ending) (w' : World) : Prop :=
 match o with
 | none => e = .returned (.tuple #[.slice none 0 0, .bool false]) ∧ Below w.heap.size w w'
 | some rs => ∃ V n c qs, e = .returned (.tuple #[.slice V n c, .bool true]) ∧ qs.map (·.r) = heldK Rc.id rs ∧ Recs w' V n c qs ∧ (∀ g o, V = some ⟨g, o, none⟩ → w.heap.size ≤ g) ∧ (∀ q ∈ qs, ∀ g o, q.V = some ⟨g, o, none⟩ → w.heap.size ≤ g) ∧ Below w.heap.size w w'
end Go.Proofs.YtkejjdoaljoooaaGreatDoor.Sc
/- The program's records: of each id the last one, in the order of the ids; or none, where one isn't read. -/
namespace Go.Proofs.YtkejjdoaljoooaaGreatDoor.Sc
open Lib (hid)
open Go.RowKit Mem Ids Rk Att Cod Go.Maps
theorem info_rec : (Tryz.prog.info? 43).map (fun i => (i.zero, i.size, i.bytes)) = some (some (val zeroPt), 16, 160) := by kernel_rfl
def new_ (B : Nat) (q : Pt) : Prop := ∀ g o, q.V = some ⟨g, o, none⟩ → B ≤ g
def RdRel (v : Nat) (w : World) (n : Nat) (F : Array Value) (ps : List Cr.Part) (i : Value) (wr : World) : Prop :=
 ∃ (k : Nat) (qs : List Pt) (D : DataW Value), k ≤ n ∧ i = .int .i64 (k : Int) ∧ recsOf v ((ps.map (·.bs)).take k) = some (qs.map (·.r)) ∧ qs.length = k ∧ wr.ownsMap Tryz.prog 34 heldV (w.heap.size + 1) k D ∧ Holds D qs ∧ (∀ q ∈ qs, Wf (ptId q) ∧ Dep wr q ∧ new_ (w.heap.size + 2) q) ∧ Blk wr w.heap.size 61 F ∧ Below w.heap.size w wr ∧ w.heap.size + 2 ≤ wr.heap.size
theorem own_size {w : World} {b n : Nat} {D : DataW Value} (h : w.ownsMap Tryz.prog 34 heldV b n D) : Maps.size D ≤ n := by
 obtain ⟨es, clock, _, _, hs, rfl⟩ := h;show ((es.toList.map _).foldr DataW.insert []).length ≤ n;rw [length_sorted, List.length_map, Array.length_toList];exact hs
def OutRel (w2 : World) (qs : List Pt) (ks : List (Int × Int)) (i l : Value) (wr : World) : Prop :=
 ∃ (k : Nat) (V : Option Addr) (c : Nat), k ≤ ks.length ∧ i = .int .i64 (k : Int) ∧ l = .slice V k c ∧ wr.ownsRow w2.heap.size 43 16 (.slice V k c) k (flat ((ks.take k).map (ofId qs))) ∧ Below w2.heap.size w2 wr
set_option maxRecDepth 20000 in
set_option maxHeartbeats 8000000 in
theorem records_1 (A : Option Addr) (n c : Nat) (ps : List Cr.Part) (w : World) (hm : Cr.Mat w A n c ps) (hp : ∀ p ∈ ps, p.n ≤ 1000000) (hn : n ≤ 1000000000) :
 Calls Tryz.prog 36 #[formV 1, .slice A n c] w (RecsIs (recsOf 1 (ps.map (·.bs))) w) := by
 have hmk := @run_makeMap Tryz.prog;obtain ⟨W, hW⟩ : ∃ W, (w.alloc (.cells #[.int .i64 1, .func (.func 32) #[] #[], .func (.func 33) #[] #[]] 61)).alloc (.map #[] 0) = W := ⟨_, rfl⟩
 have hf0 := (Blk.new w 61 #[.int .i64 1, .func (.func 32) #[] #[], .func (.func 33) #[] #[]]).alloc (.map #[] 0);have hown0 := World.ownsMap_made (H := Value) (w.alloc (.cells #[.int .i64 1, .func (.func 32) #[] #[], .func (.func 33) #[] #[]] 61)) Tryz.prog 34 heldV;rw [size_alloc] at hown0;have hb0 := bel_alloc (bel_alloc (Below.refl w.heap.size w) (.cells #[.int .i64 1, .func (.func 32) #[] #[], .func (.func 33) #[] #[]] 61)) (.map #[] 0);have hs0 : W.heap.size = w.heap.size + 2 := by rw [← hW]; simp
 rw [hW] at hf0 hown0 hb0;have lx := hm.row.len;rw [List.length_map] at lx;have bx := hm.row.le;have cx := hm.row.cap;unfold maxLen at cx;have HM := hid hm;have HP := hid hp;have LX := hid lx;have H0 := hid (And.intro hf0 (And.intro hown0 (And.intro hb0 hs0)));have HW := hid hW;clear hm hp lx hf0 hown0 hb0 hs0 hW;unfold formV formC;go_enter Tryz.func36, Tryz.ntmps36
 go_wp2_with fail
 rw [HW.out];go_loopw [20] (RdRel 1 w n #[.int .i64 1, .func (.func 32) #[] #[], .func (.func 33) #[] #[]] ps) (fun i _ => n - (intOf i).toNat)
 case atStart => exact ⟨0, [], .map [], Nat.zero_le _, rfl, rfl, rfl, H0.out.2.1, Holds.nil, fun _ h => (by cases h), H0.out.1, H0.out.2.2.1, by rw [H0.out.2.2.2]; exact Nat.le_refl _⟩
 case round =>
  obtain ⟨k, qs, D, hk, rfl, hre, hql, hown, hD, hqs, hfb, hbel, hsz⟩ := hrel;by_cases hlt : k < n
  · obtain ⟨ad, u, rfl, had, hx, hc⟩ := HM.out.row.at_ hlt
    rw [List.getElem?_map, Option.map_eq_some_iff] at hx;obtain ⟨p, hpk, rfl⟩ := hx;have hpm := List.mem_of_getElem? hpk;have hpp := HM.out.part p hpm;have hpn := HP.out p hpm;have hc2 := (hbel.cell (p := ad.add k) (by rw [add_block]; exact had)).trans hc;have hpl : p.bs.length ≤ 1000000 := (by have h := hpp.1.len; rw [length_cs] at h; omega);have hge := Cp.get_item p.bs p.A p.n p.c wr (hpp.1.below hbel) hpp.2 hpn;have hpk2 : (ps.map (·.bs))[k]? = some p.bs := (by rw [List.getElem?_map, hpk]; rfl);unfold Cr.pv at hc2;have HGE := hid hge;have HR := hid (And.intro hre (And.intro hql hpk2));have HO := hid (And.intro hown hD);have HQ := hid hqs;have HF := hid hfb;have HB := hid (And.intro hbel hsz);have HKI := hid (kids_le hpp.2 hpl);have hro : recOf 1 p.bs = if Cp.getE p.bs = 0 then take 1 (Cp.getX p.bs) else none := rfl
    obtain ⟨gx, hgx⟩ : ∃ gx, Cp.getX p.bs = gx := ⟨_, rfl⟩
    obtain ⟨ge, hge'⟩ : ∃ ge, Cp.getE p.bs = ge := ⟨_, rfl⟩
    obtain ⟨gp, hgp⟩ : ∃ gp, Cp.getP p.bs = gp := ⟨_, rfl⟩
    rw [hgx, hge'] at hro;unfold Cp.GetIs at HGE;rw [hgx, hge', hgp] at HGE;rw [hgx] at HKI;have HRO := hid hro;clear hre hql hpk2 hown hD hqs hfb hbel hsz hge hpp hpn hc hpl hpk hpm hro hgx hge' hgp;go_wp2_with fail
    refine HGE.out.mono ?_;rintro e w2 ⟨GA, gc, rfl, hl2, hb2⟩;have hb02 := HB.out.1.trans (hb2.mono HB.out.1.size);have hl3 := hl2.alloc (.cells #[.int .i64 gx.kind, .int .u64 (gx.num : Int), .string gx.str, .slice GA gx.kids.length gc] 95);have hb3 := bel_alloc hb2 (.cells #[.int .i64 gx.kind, .int .u64 (gx.num : Int), .string gx.str, .slice GA gx.kids.length gc] 95);have hit := Blk.new w2 95 #[.int .i64 gx.kind, .int .u64 (gx.num : Int), .string gx.str, .slice GA gx.kids.length gc];obtain ⟨w3, hw3⟩ : ∃ w3, w2.alloc (.cells #[.int .i64 gx.kind, .int .u64 (gx.num : Int), .string gx.str, .slice GA gx.kids.length gc] 95) = w3 := ⟨_, rfl⟩
    have hs3 : w3.heap.size = w2.heap.size + 1 := (by rw [← hw3]; simp);rw [hw3] at hl3 hb3 hit;have htk : Calls Tryz.prog 33 #[.agg #[.int .i64 gx.kind, .int .u64 (gx.num : Int), .string gx.str, .slice GA gx.kids.length gc]] w3 (TakesPt (take 1 gx) w3) := (Rk.takeold_any gx GA gc _ w3 (hl3.more (S' := fun b => b < w3.heap.size) fun b _ hlt => hlt) (fun b hb => hb) HKI.out).mono fun _ _ h => TakesPt.of h;have hf3 := HF.out.bel hb3;have f2 := hf3.cell 2;have i0 := hit.cell 0;have i1 := hit.cell 1;have i2 := hit.cell 2;have i3 := hit.cell 3;simp only [List.getElem?_toArray, List.getElem?_cons_succ, List.getElem?_cons_zero] at f2 i0 i1 i2 i3;have HTK := hid htk;have HB3 := hid (And.intro hb3 (HB.out.1.trans (hb3.mono HB.out.1.size)));have HW3 := hid (And.intro hw3 hs3);clear hl2 hb2 hb02 hl3 hb3 hit hw3 htk hf3 hs3;go_upto_region 6 with fail
    rw [HW3.out.1];go_wp2_with fail
    refine HTK.out.mono ?_;rintro e w4 ⟨q, rfl, hqr, hdq, hnq, hb4⟩;obtain ⟨ts, hts⟩ : ∃ ts, (take 1 gx).isSome = ts := ⟨_, rfl⟩
    rw [hts];have HTS := hid hts;clear hts;unfold val;have hz := Blk.new w4 43 #[.int .i64 0, .int .i64 0, .int .i64 0, .int .i64 0, .int .i64 0, .int .i64 0, .int .i64 0, .int .i64 0, .int .i64 0, .int .i64 0, .string ⟨#[]⟩, .string ⟨#[]⟩, .int .i64 0, .slice none 0 0, .int .i64 0, .int .i64 0];have hb5 := bel_alloc hb4 (.cells #[.int .i64 0, .int .i64 0, .int .i64 0, .int .i64 0, .int .i64 0, .int .i64 0, .int .i64 0, .int .i64 0, .int .i64 0, .int .i64 0, .string ⟨#[]⟩, .string ⟨#[]⟩, .int .i64 0, .slice none 0 0, .int .i64 0, .int .i64 0] 43);have HZ := hid hz;have HD4 := hid (And.intro hqr (And.intro hdq (And.intro hnq (And.intro hb5 hb4))));clear hqr hdq hnq hb4 hz hb5 f2 i0 i1 i2 i3;go_upto_region 7 with (with_reducible refine wpList_store_blk rfl 43 (.tmp 12) (.tmp 35) rfl w4.heap.size 43 #[.int .i64 0, .int .i64 0, .int .i64 0, .int .i64 0, .int .i64 0, .int .i64 0, .int .i64 0, .int .i64 0, .int .i64 0, .int .i64 0, .string ⟨#[]⟩, .string ⟨#[]⟩, .int .i64 0, .slice none 0 0, .int .i64 0, .int .i64 0] #[.int .i64 q.r.id.1, .int .i64 q.r.id.2, .int .i64 q.r.st, .int .i64 q.r.bl.1, .int .i64 q.r.bl.2, .int .i64 q.r.tk.1, .int .i64 q.r.tk.2, .int .i64 q.r.cm.kd, .int .i64 q.r.cm.cl, .int .i64 q.r.cm.sq, .string q.r.cm.ky, .string q.r.cm.vl, .int .i64 q.r.cm.rv, .slice q.V q.n q.c, .int .i64 q.r.at_.sq, .int .i64 q.r.at_.tg] rfl rfl HZ.out (by kernel_rfl) rfl (by kernel_rfl) ?_; intro w5 hblk hg5)
    have hb35 : Below w3.heap.size w3 w5 := HD4.out.2.2.2.1.grown hg5 HD4.out.2.2.2.1.size fun j e => (by injection e with e; have := HD4.out.2.2.2.2.size; omega);have hbr5 : Below wr.heap.size wr w5 := HB3.out.1.trans (hb35.mono HB3.out.1.size);have hdq5 : Dep w5 q := Rs.below HD4.out.2.1 ((bel_alloc (Below.refl w4.heap.size w4) (.cells #[.int .i64 0, .int .i64 0, .int .i64 0, .int .i64 0, .int .i64 0, .int .i64 0, .int .i64 0, .int .i64 0, .int .i64 0, .int .i64 0, .string ⟨#[]⟩, .string ⟨#[]⟩, .int .i64 0, .slice none 0 0, .int .i64 0, .int .i64 0] 43)).grown hg5 (by rw [size_alloc]; omega) fun j e => by injection e with e; omega);have HBR := hid hbr5;have HBK := hid (And.intro hblk hdq5);have k0 := hblk.cell 0;have k1 := hblk.cell 1;simp only [List.getElem?_toArray, List.getElem?_cons_succ, List.getElem?_cons_zero] at k0 k1;clear hblk hg5 hb35 hbr5 hdq5;by_cases h0 : ge = 0
    · subst h0
      cases htv : take 1 gx with
      | none =>
        have hno : recOf 1 p.bs = none := (by rw [HRO.out, if_pos rfl, htv]);have hst := recs_stop HR.out.1 HR.out.2.2 hno;have HST := hid hst;have hts : ts = false := (by rw [← HTS.out, htv]; rfl);subst hts;clear hno hst htv HTS;go_wp2_with fail
        go_ret2
        rw [HST.out];exact ⟨rfl, HB.out.1.trans (HBR.out.mono HB.out.1.size)⟩
      | some r =>
        have hqr : q.r = r := (by rw [HD4.out.1, htv]; rfl);have hyes : recOf 1 p.bs = some q.r := (by rw [HRO.out, if_pos rfl, htv, hqr]);have hnx := recs_next HR.out.1 HR.out.2.2 hyes
        have hwf : Wf (ptId q) := by
         have : take 1 gx = some q.r := (by rw [htv, hqr]);exact right_wf (take_right this)
        have hown5 := own_below HO.out.1 HBR.out;obtain ⟨w6, hmu, hown6, hg6⟩ := store_rec (q := q) hown5 hwf (by unfold maxLen; omega);unfold idV val ptId at hmu
        have hqs6 : ∀ x ∈ qs ++ [q], Wf (ptId x) ∧ Dep w6 x ∧ new_ (w.heap.size + 2) x := fun x hx => by
         rcases List.mem_append.1 hx with hx | hx
         · obtain ⟨h1, h2, h3⟩ := HQ.out x hx
           exact ⟨h1, dep_turn (Rs.below h2 HBR.out) h3 hg6 (by omega), h3⟩
         · rw [List.mem_singleton.1 hx]
           have hnw : new_ (w.heap.size + 2) q := fun g o e => by
            have h1 := HD4.out.2.2.1 g o e;have h2 := HB3.out.1.size;have h3 := HB.out.2;omega
           exact ⟨hwf, dep_turn HBK.out.2 hnw hg6 (by omega), hnw⟩
        have hf6 : Blk w6 w.heap.size 61 #[.int .i64 1, .func (.func 32) #[] #[], .func (.func 33) #[] #[]] := (hg6.block _ (HF.out.bel HBR.out).lt (by intro e; injection e with e; omega)).trans (HF.out.bel HBR.out);have hb6 : Below w.heap.size w w6 := (HB.out.1.trans (HBR.out.mono HB.out.1.size)).grown hg6 (HB.out.1.trans (HBR.out.mono HB.out.1.size)).size fun j e => (by injection e with e; omega);have HEND := hid (And.intro hnx (And.intro hown6 (And.intro (HO.out.2.put hwf) (And.intro hqs6 (And.intro hf6 hb6)))));have HS6 := hid (show w.heap.size + 2 ≤ w6.heap.size by have h1 := hg6.size; have h2 := HBR.out.size; have h3 := HB.out.2; omega);have HMU := hid hmu;have HKB := hid HBK.out.1;have hts : ts = true := (by rw [← HTS.out, htv]; rfl);subst hts;clear hqr hyes hnx hwf hown5 hown6 hg6 hqs6 hf6 hb6 htv hmu HTS;go_upto_region 9 with fail
        have hmu := HMU.out;go_wp2_with (with_reducible refine wpList_load_blk rfl 43 (.tmp 12) rfl w4.heap.size 43 #[.int .i64 q.r.id.1, .int .i64 q.r.id.2, .int .i64 q.r.st, .int .i64 q.r.bl.1, .int .i64 q.r.bl.2, .int .i64 q.r.tk.1, .int .i64 q.r.tk.2, .int .i64 q.r.cm.kd, .int .i64 q.r.cm.cl, .int .i64 q.r.cm.sq, .string q.r.cm.ky, .string q.r.cm.vl, .int .i64 q.r.cm.rv, .slice q.V q.n q.c, .int .i64 q.r.at_.sq, .int .i64 q.r.at_.tg] _ rfl HKB.out Tryz.underlying43 rfl (by kernel_rfl) ?_)
        go_roundw
        case rel => exact ⟨k + 1, qs ++ [q], _, by omega, by simp, by rw [HEND.out.1]; simp, by rw [List.length_append, HR.out.2.1]; rfl, HEND.out.2.1, HEND.out.2.2.1, HEND.out.2.2.2.1, HEND.out.2.2.2.2.1, HEND.out.2.2.2.2.2, HS6.out⟩
        case measure => simp [intOf]; omega
    · have hno : recOf 1 p.bs = none := by rw [HRO.out, if_neg h0]
      have hst := recs_stop HR.out.1 HR.out.2.2 hno;have b0 : ((ge : Int) != 0) = true := (by simpa using h0);have b1 : ((ge : Int) == 0) = false := (by simpa using h0);have HST := hid hst;clear hno hst h0;go_wp2_with fail
      go_ret2
      rw [HST.out];exact ⟨rfl, HB.out.1.trans (HBR.out.mono HB.out.1.size)⟩
  · obtain rfl : k = n := by omega
    have et : (ps.map (·.bs)).take k = ps.map (·.bs) := List.take_of_length_le (by rw [List.length_map]; have := LX.out; omega);rw [et] at hre;have hN := own_size hown;have hwq : ∀ q ∈ qs, Wf (ptId q) := fun q hq => (hqs q hq).1;have hb1 := bel_alloc (Below.refl wr.heap.size wr) (.cells #[.map (some (w.heap.size + 1))] 125);have hco := collect_any (w.heap.size + 1) k D wr.heap.size (wr.alloc (.cells #[.map (some (w.heap.size + 1))] 125)) ((Blk.new wr 125 #[.map (some (w.heap.size + 1))]).cell 0) (own_below hown hb1) (by omega);have HCO := hid hco;have HRE := hid hre;have HO := hid (And.intro hown hD);have HQ := hid hqs;have HWQ := hid hwq;have HB := hid (And.intro hbel (And.intro hb1 hN));clear hre hql hown hD hqs hfb hbel hsz et hN hwq hb1 hco;go_wp2_with fail
    refine (mapkeys_any _ _).mono ?_;rintro e w2 ⟨rfl, rfl⟩;go_wp2_with fail
    refine HCO.out.mono ?_;rintro e w3 ⟨V3, k3, ys, rfl, hall, hyl, hrs, hb3⟩;have hse := set_any ys V3 ys.length k3 w3 hrs (by have := HB.out.2.2; omega);have hids := all_ids hall HO.out.2 HWQ.out;have HSE := hid hse;have HID := hid (And.intro hids (And.intro hall.1 hyl));have HB3 := hid (HB.out.2.1.trans (hb3.mono HB.out.2.1.size));clear hall hyl hrs hb3 hse hids;go_wp2_with fail
    refine HSE.out.mono ?_;rintro e w5 ⟨V5, k5, rfl, hrs5, hb5⟩;have hb15 : Below wr.heap.size wr w5 := HB3.out.trans (hb5.mono HB3.out.size);have hheld := held_ids HID.out.1;have hmk : ∀ i ∈ setl ys, i ∈ qs.map ptId ∧ Wf i := fun i hi => ⟨(HID.out.1 i).1 ((mem_setl ys i).1 hi), HID.out.2.1 i ((mem_setl ys i).1 hi)⟩
    have hown5 := own_below HO.out.1 hb15;have HH := hid (And.intro hheld hmk);have HO5 := hid hown5;have HB5 := hid hb15;obtain ⟨ks, hks⟩ : ∃ ks, setl ys = ks := ⟨_, rfl⟩
    rw [hks] at HH hrs5 ⊢;have hlen := HB.out.2.2
    have hkl : ks.length ≤ 1000000000 := by
     rw [← hks];have h1 := length_setl ys;have h2 := HID.out.2.2;omega
    have HKL := hid hkl;have HRS5 := hid hrs5;clear hb5 hb15 hheld hmk hown5 hks hlen hkl hrs5 HSE HCO;go_wp2_with fail
    go_loopw [53, 14] (OutRel w5 qs ks) (fun i _ _ => ks.length - (intOf i).toNat)
    case atStart => exact ⟨0, none, 0, Nat.zero_le _, rfl, rfl, World.ownsRow_nil _ _ _ _, Below.refl _ _⟩
    case round =>
     obtain ⟨j, V, vc, hj, rfl, rfl, hown, hbel⟩ := hrel;have hj9 : j ≤ 1000000000 := (by have := HKL.out; omega);by_cases hlt : j < ks.length
     · obtain ⟨g, o, x, rfl, hgl, hx, hc0, hc1⟩ := HRS5.out.at_ hlt
       obtain ⟨hxm, hxw⟩ := HH.out.2 x (List.mem_of_getElem? hx);obtain ⟨hla, hqm⟩ := of_id hxm;have c0 := (hbel.cell (p := ⟨g, o + j * 2, none⟩) hgl).trans hc0;have c1 := (hbel.cell (p := ⟨g, o + j * 2 + 1, none⟩) hgl).trans hc1;have hbi := bel_alloc hbel (.cells #[.int .i64 x.1, .int .i64 x.2] 34);have hfi := HO.out.2.find (own_below HO5.out hbi) hxw hla;have hrow2 := ownsRow_below hown (bel_alloc (Below.refl wr.heap.size wr) (.cells #[.int .i64 x.1, .int .i64 x.2] 34));have hnx : (ks.take (j + 1)).map (ofId qs) = (ks.take j).map (ofId qs) ++ [ofId qs x] := (by rw [List.take_add_one, hx, List.map_append]; rfl);obtain ⟨q, hq⟩ : ∃ q, ofId qs x = q := ⟨_, rfl⟩
       rw [hq] at hfi hnx hqm;have hq2 := Rs.below (HQ.out q hqm).2.1 (HB5.out.trans (hbi.mono HB5.out.size));unfold idV val at hfi;obtain ⟨w6, hw6⟩ : ∃ w6, wr.alloc (.cells #[.int .i64 x.1, .int .i64 x.2] 34) = w6 := ⟨_, rfl⟩
       have hs6 : w6.heap.size = wr.heap.size + 1 := (by rw [← hw6]; simp);have b0 := (Blk.new wr 34 #[.int .i64 x.1, .int .i64 x.2]).cell 0;have b1 := (Blk.new wr 34 #[.int .i64 x.1, .int .i64 x.2]).cell 1;rw [hw6] at hfi hrow2 hq2 hbi b0 b1;simp only [List.getElem?_toArray, List.getElem?_cons_succ, List.getElem?_cons_zero] at b0 b1;have HROW := hid (ownsRow_below hrow2 (bel_alloc (Below.refl w6.heap.size w6) (.cells #[.int .i64 q.r.id.1, .int .i64 q.r.id.2, .int .i64 q.r.st, .int .i64 q.r.bl.1, .int .i64 q.r.bl.2, .int .i64 q.r.tk.1, .int .i64 q.r.tk.2, .int .i64 q.r.cm.kd, .int .i64 q.r.cm.cl, .int .i64 q.r.cm.sq, .string q.r.cm.ky, .string q.r.cm.vl, .int .i64 q.r.cm.rv, .slice q.V q.n q.c, .int .i64 q.r.at_.sq, .int .i64 q.r.at_.tg] 43)));have hlit := (Recs.lit w6 q 43 hq2).spot (by omega);obtain ⟨lg, lo, le, _, hlc⟩ := hlit;injection le with le;injection le with le1 le2;subst le1;subst le2;have hl0 := hlc 0 q rfl;have HL := hid hl0;have HNX := hid hnx;have HBI := hid (And.intro hbi (And.intro hs6 hbel));have HW6 := hid hw6;clear hown hbel hx hgl hc0 hc1 hla hrow2 hnx hq2 hbi hs6 hw6 hl0 hlc hq hqm hxm hxw;go_upto_region 15 with fail
       rw [HW6.out];clear c0 c1;obtain ⟨i0, hi, hz0, hz1, hz2⟩ := info_parts info_rec;go_wp2_with (at_builtin; refine wpList_append_own _ rfl (.tmp 57) (.tmp 61) 22 rfl w5.heap.size 43 i0 _ 16 160 Tryz.underlying22 hi hz0 hz1 hz2 rfl (by decide) _ j _ rfl HROW.out ⟨w6.heap.size, 0, none⟩ 1 1 (cellsOf q) rfl rfl (fun m u hu => by rw [Addr.add_lit]; exact HL.out m u hu) (cellsOf_one q) (by have := HKL.out; unfold maxLen; omega) (by have := HKL.out; omega) (by have h1 := HBI.out.1.size; simp; omega) ?_; intro v' w7 ho7 hg7 _; obtain ⟨V7, c7, rfl⟩ := own_form ho7)
       have hb7 : Below w5.heap.size w5 w7 := (bel_alloc HBI.out.1 (.cells #[.int .i64 q.r.id.1, .int .i64 q.r.id.2, .int .i64 q.r.st, .int .i64 q.r.bl.1, .int .i64 q.r.bl.2, .int .i64 q.r.tk.1, .int .i64 q.r.tk.2, .int .i64 q.r.cm.kd, .int .i64 q.r.cm.cl, .int .i64 q.r.cm.sq, .string q.r.cm.ky, .string q.r.cm.vl, .int .i64 q.r.cm.rv, .slice q.V q.n q.c, .int .i64 q.r.at_.sq, .int .i64 q.r.at_.tg] 43)).grown hg7 (bel_alloc HBI.out.1 (.cells #[.int .i64 q.r.id.1, .int .i64 q.r.id.2, .int .i64 q.r.st, .int .i64 q.r.bl.1, .int .i64 q.r.bl.2, .int .i64 q.r.tk.1, .int .i64 q.r.tk.2, .int .i64 q.r.cm.kd, .int .i64 q.r.cm.cl, .int .i64 q.r.cm.sq, .string q.r.cm.ky, .string q.r.cm.vl, .int .i64 q.r.cm.rv, .slice q.V q.n q.c, .int .i64 q.r.at_.sq, .int .i64 q.r.at_.tg] 43)).size fun m e => (HROW.out.lt m e).1;have e7 : flat ((ks.take j).map (ofId qs)) ++ cellsOf q = flat ((ks.take (j + 1)).map (ofId qs)) := (by rw [HNX.out, flat_append, flat_one]);rw [e7] at ho7;have H7 := hid (And.intro ho7 hb7);clear ho7 hg7 hb7 e7;go_roundw
       case rel => exact ⟨j + 1, V7, c7, by omega, by simp, rfl, H7.out.1, H7.out.2⟩
       case measure => simp [intOf]; omega
     · obtain rfl : j = ks.length := by omega
       have et : ks.take ks.length = ks := List.take_length;rw [et, ← HH.out.1] at hown;have hrs : Recs wr V ks.length vc (heldK ptId qs) := Recs.own hown fun q hq => Rs.below (HQ.out q (mem_heldK ptId hq)).2.1 (HB5.out.trans (hbel.mono HB5.out.size));have hbw := HB.out.1.trans ((HB5.out.trans (hbel.mono HB5.out.size)).mono HB.out.1.size)
       have hnv : ∀ g o, V = some ⟨g, o, none⟩ → w.heap.size ≤ g := fun g o e => by
        have h1 := (hown.lt g (by rw [e]; rfl)).1;have h2 := HB5.out.size;have h3 := HB.out.1.size;omega
       have HE := hid (And.intro hrs (And.intro hbw hnv));clear hown hbel et hrs hbw hnv;go_wp2_with fail
       go_ret2
       rw [HRE.out];exact ⟨V, ks.length, vc, heldK ptId qs, rfl, held_rc qs, HE.out.1, HE.out.2.2, fun q hq g o e => by have := (HQ.out q (mem_heldK ptId hq)).2.2 g o e; omega, HE.out.2.1⟩
set_option maxRecDepth 20000 in
set_option maxHeartbeats 8000000 in
theorem records_2 (A : Option Addr) (n c : Nat) (ps : List Cr.Part) (w : World) (hm : Cr.Mat w A n c ps) (hp : ∀ p ∈ ps, p.n ≤ 1000000) (hn : n ≤ 1000000000) :
 Calls Tryz.prog 36 #[formV 2, .slice A n c] w (RecsIs (recsOf 2 (ps.map (·.bs))) w) := by
 have hmk := @run_makeMap Tryz.prog;obtain ⟨W, hW⟩ : ∃ W, (w.alloc (.cells #[.int .i64 2, .func (.func 34) #[] #[], .func (.func 35) #[] #[]] 61)).alloc (.map #[] 0) = W := ⟨_, rfl⟩
 have hf0 := (Blk.new w 61 #[.int .i64 2, .func (.func 34) #[] #[], .func (.func 35) #[] #[]]).alloc (.map #[] 0);have hown0 := World.ownsMap_made (H := Value) (w.alloc (.cells #[.int .i64 2, .func (.func 34) #[] #[], .func (.func 35) #[] #[]] 61)) Tryz.prog 34 heldV;rw [size_alloc] at hown0;have hb0 := bel_alloc (bel_alloc (Below.refl w.heap.size w) (.cells #[.int .i64 2, .func (.func 34) #[] #[], .func (.func 35) #[] #[]] 61)) (.map #[] 0);have hs0 : W.heap.size = w.heap.size + 2 := by rw [← hW]; simp
 rw [hW] at hf0 hown0 hb0;have lx := hm.row.len;rw [List.length_map] at lx;have bx := hm.row.le;have cx := hm.row.cap;unfold maxLen at cx;have HM := hid hm;have HP := hid hp;have LX := hid lx;have H0 := hid (And.intro hf0 (And.intro hown0 (And.intro hb0 hs0)));have HW := hid hW;clear hm hp lx hf0 hown0 hb0 hs0 hW;unfold formV formC;go_enter Tryz.func36, Tryz.ntmps36
 go_wp2_with fail
 rw [HW.out];go_loopw [20] (RdRel 2 w n #[.int .i64 2, .func (.func 34) #[] #[], .func (.func 35) #[] #[]] ps) (fun i _ => n - (intOf i).toNat)
 case atStart => exact ⟨0, [], .map [], Nat.zero_le _, rfl, rfl, rfl, H0.out.2.1, Holds.nil, fun _ h => (by cases h), H0.out.1, H0.out.2.2.1, by rw [H0.out.2.2.2]; exact Nat.le_refl _⟩
 case round =>
  obtain ⟨k, qs, D, hk, rfl, hre, hql, hown, hD, hqs, hfb, hbel, hsz⟩ := hrel;by_cases hlt : k < n
  · obtain ⟨ad, u, rfl, had, hx, hc⟩ := HM.out.row.at_ hlt
    rw [List.getElem?_map, Option.map_eq_some_iff] at hx;obtain ⟨p, hpk, rfl⟩ := hx;have hpm := List.mem_of_getElem? hpk;have hpp := HM.out.part p hpm;have hpn := HP.out p hpm;have hc2 := (hbel.cell (p := ad.add k) (by rw [add_block]; exact had)).trans hc;have hpl : p.bs.length ≤ 1000000 := (by have h := hpp.1.len; rw [length_cs] at h; omega);have hge := Cp.get_item p.bs p.A p.n p.c wr (hpp.1.below hbel) hpp.2 hpn;have hpk2 : (ps.map (·.bs))[k]? = some p.bs := (by rw [List.getElem?_map, hpk]; rfl);unfold Cr.pv at hc2;have HGE := hid hge;have HR := hid (And.intro hre (And.intro hql hpk2));have HO := hid (And.intro hown hD);have HQ := hid hqs;have HF := hid hfb;have HB := hid (And.intro hbel hsz);have HKI := hid (kids_le hpp.2 hpl);have hro : recOf 2 p.bs = if Cp.getE p.bs = 0 then take 2 (Cp.getX p.bs) else none := rfl
    obtain ⟨gx, hgx⟩ : ∃ gx, Cp.getX p.bs = gx := ⟨_, rfl⟩
    obtain ⟨ge, hge'⟩ : ∃ ge, Cp.getE p.bs = ge := ⟨_, rfl⟩
    obtain ⟨gp, hgp⟩ : ∃ gp, Cp.getP p.bs = gp := ⟨_, rfl⟩
    rw [hgx, hge'] at hro;unfold Cp.GetIs at HGE;rw [hgx, hge', hgp] at HGE;rw [hgx] at HKI;have HRO := hid hro;clear hre hql hpk2 hown hD hqs hfb hbel hsz hge hpp hpn hc hpl hpk hpm hro hgx hge' hgp;go_wp2_with fail
    refine HGE.out.mono ?_;rintro e w2 ⟨GA, gc, rfl, hl2, hb2⟩;have hb02 := HB.out.1.trans (hb2.mono HB.out.1.size);have hl3 := hl2.alloc (.cells #[.int .i64 gx.kind, .int .u64 (gx.num : Int), .string gx.str, .slice GA gx.kids.length gc] 95);have hb3 := bel_alloc hb2 (.cells #[.int .i64 gx.kind, .int .u64 (gx.num : Int), .string gx.str, .slice GA gx.kids.length gc] 95);have hit := Blk.new w2 95 #[.int .i64 gx.kind, .int .u64 (gx.num : Int), .string gx.str, .slice GA gx.kids.length gc];obtain ⟨w3, hw3⟩ : ∃ w3, w2.alloc (.cells #[.int .i64 gx.kind, .int .u64 (gx.num : Int), .string gx.str, .slice GA gx.kids.length gc] 95) = w3 := ⟨_, rfl⟩
    have hs3 : w3.heap.size = w2.heap.size + 1 := (by rw [← hw3]; simp);rw [hw3] at hl3 hb3 hit;have htk : Calls Tryz.prog 35 #[.agg #[.int .i64 gx.kind, .int .u64 (gx.num : Int), .string gx.str, .slice GA gx.kids.length gc]] w3 (TakesPt (take 2 gx) w3) := (Rk.take_any gx GA gc _ w3 (hl3.more (S' := fun b => b < w3.heap.size) fun b _ hlt => hlt) (fun b hb => hb) HKI.out).mono fun _ _ h => TakesPt.of h;have hf3 := HF.out.bel hb3;have f2 := hf3.cell 2;have i0 := hit.cell 0;have i1 := hit.cell 1;have i2 := hit.cell 2;have i3 := hit.cell 3;simp only [List.getElem?_toArray, List.getElem?_cons_succ, List.getElem?_cons_zero] at f2 i0 i1 i2 i3;have HTK := hid htk;have HB3 := hid (And.intro hb3 (HB.out.1.trans (hb3.mono HB.out.1.size)));have HW3 := hid (And.intro hw3 hs3);clear hl2 hb2 hb02 hl3 hb3 hit hw3 htk hf3 hs3;go_upto_region 6 with fail
    rw [HW3.out.1];go_wp2_with fail
    refine HTK.out.mono ?_;rintro e w4 ⟨q, rfl, hqr, hdq, hnq, hb4⟩;obtain ⟨ts, hts⟩ : ∃ ts, (take 2 gx).isSome = ts := ⟨_, rfl⟩
    rw [hts];have HTS := hid hts;clear hts;unfold val;have hz := Blk.new w4 43 #[.int .i64 0, .int .i64 0, .int .i64 0, .int .i64 0, .int .i64 0, .int .i64 0, .int .i64 0, .int .i64 0, .int .i64 0, .int .i64 0, .string ⟨#[]⟩, .string ⟨#[]⟩, .int .i64 0, .slice none 0 0, .int .i64 0, .int .i64 0];have hb5 := bel_alloc hb4 (.cells #[.int .i64 0, .int .i64 0, .int .i64 0, .int .i64 0, .int .i64 0, .int .i64 0, .int .i64 0, .int .i64 0, .int .i64 0, .int .i64 0, .string ⟨#[]⟩, .string ⟨#[]⟩, .int .i64 0, .slice none 0 0, .int .i64 0, .int .i64 0] 43);have HZ := hid hz;have HD4 := hid (And.intro hqr (And.intro hdq (And.intro hnq (And.intro hb5 hb4))));clear hqr hdq hnq hb4 hz hb5 f2 i0 i1 i2 i3;go_upto_region 7 with (with_reducible refine wpList_store_blk rfl 43 (.tmp 12) (.tmp 35) rfl w4.heap.size 43 #[.int .i64 0, .int .i64 0, .int .i64 0, .int .i64 0, .int .i64 0, .int .i64 0, .int .i64 0, .int .i64 0, .int .i64 0, .int .i64 0, .string ⟨#[]⟩, .string ⟨#[]⟩, .int .i64 0, .slice none 0 0, .int .i64 0, .int .i64 0] #[.int .i64 q.r.id.1, .int .i64 q.r.id.2, .int .i64 q.r.st, .int .i64 q.r.bl.1, .int .i64 q.r.bl.2, .int .i64 q.r.tk.1, .int .i64 q.r.tk.2, .int .i64 q.r.cm.kd, .int .i64 q.r.cm.cl, .int .i64 q.r.cm.sq, .string q.r.cm.ky, .string q.r.cm.vl, .int .i64 q.r.cm.rv, .slice q.V q.n q.c, .int .i64 q.r.at_.sq, .int .i64 q.r.at_.tg] rfl rfl HZ.out (by kernel_rfl) rfl (by kernel_rfl) ?_; intro w5 hblk hg5)
    have hb35 : Below w3.heap.size w3 w5 := HD4.out.2.2.2.1.grown hg5 HD4.out.2.2.2.1.size fun j e => (by injection e with e; have := HD4.out.2.2.2.2.size; omega);have hbr5 : Below wr.heap.size wr w5 := HB3.out.1.trans (hb35.mono HB3.out.1.size);have hdq5 : Dep w5 q := Rs.below HD4.out.2.1 ((bel_alloc (Below.refl w4.heap.size w4) (.cells #[.int .i64 0, .int .i64 0, .int .i64 0, .int .i64 0, .int .i64 0, .int .i64 0, .int .i64 0, .int .i64 0, .int .i64 0, .int .i64 0, .string ⟨#[]⟩, .string ⟨#[]⟩, .int .i64 0, .slice none 0 0, .int .i64 0, .int .i64 0] 43)).grown hg5 (by rw [size_alloc]; omega) fun j e => by injection e with e; omega);have HBR := hid hbr5;have HBK := hid (And.intro hblk hdq5);have k0 := hblk.cell 0;have k1 := hblk.cell 1;simp only [List.getElem?_toArray, List.getElem?_cons_succ, List.getElem?_cons_zero] at k0 k1;clear hblk hg5 hb35 hbr5 hdq5;by_cases h0 : ge = 0
    · subst h0
      cases htv : take 2 gx with
      | none =>
        have hno : recOf 2 p.bs = none := (by rw [HRO.out, if_pos rfl, htv]);have hst := recs_stop HR.out.1 HR.out.2.2 hno;have HST := hid hst;have hts : ts = false := (by rw [← HTS.out, htv]; rfl);subst hts;clear hno hst htv HTS;go_wp2_with fail
        go_ret2
        rw [HST.out];exact ⟨rfl, HB.out.1.trans (HBR.out.mono HB.out.1.size)⟩
      | some r =>
        have hqr : q.r = r := (by rw [HD4.out.1, htv]; rfl);have hyes : recOf 2 p.bs = some q.r := (by rw [HRO.out, if_pos rfl, htv, hqr]);have hnx := recs_next HR.out.1 HR.out.2.2 hyes
        have hwf : Wf (ptId q) := by
         have : take 2 gx = some q.r := (by rw [htv, hqr]);exact right_wf (take_right this)
        have hown5 := own_below HO.out.1 HBR.out;obtain ⟨w6, hmu, hown6, hg6⟩ := store_rec (q := q) hown5 hwf (by unfold maxLen; omega);unfold idV val ptId at hmu
        have hqs6 : ∀ x ∈ qs ++ [q], Wf (ptId x) ∧ Dep w6 x ∧ new_ (w.heap.size + 2) x := fun x hx => by
         rcases List.mem_append.1 hx with hx | hx
         · obtain ⟨h1, h2, h3⟩ := HQ.out x hx
           exact ⟨h1, dep_turn (Rs.below h2 HBR.out) h3 hg6 (by omega), h3⟩
         · rw [List.mem_singleton.1 hx]
           have hnw : new_ (w.heap.size + 2) q := fun g o e => by
            have h1 := HD4.out.2.2.1 g o e;have h2 := HB3.out.1.size;have h3 := HB.out.2;omega
           exact ⟨hwf, dep_turn HBK.out.2 hnw hg6 (by omega), hnw⟩
        have hf6 : Blk w6 w.heap.size 61 #[.int .i64 2, .func (.func 34) #[] #[], .func (.func 35) #[] #[]] := (hg6.block _ (HF.out.bel HBR.out).lt (by intro e; injection e with e; omega)).trans (HF.out.bel HBR.out);have hb6 : Below w.heap.size w w6 := (HB.out.1.trans (HBR.out.mono HB.out.1.size)).grown hg6 (HB.out.1.trans (HBR.out.mono HB.out.1.size)).size fun j e => (by injection e with e; omega);have HEND := hid (And.intro hnx (And.intro hown6 (And.intro (HO.out.2.put hwf) (And.intro hqs6 (And.intro hf6 hb6)))));have HS6 := hid (show w.heap.size + 2 ≤ w6.heap.size by have h1 := hg6.size; have h2 := HBR.out.size; have h3 := HB.out.2; omega);have HMU := hid hmu;have HKB := hid HBK.out.1;have hts : ts = true := (by rw [← HTS.out, htv]; rfl);subst hts;clear hqr hyes hnx hwf hown5 hown6 hg6 hqs6 hf6 hb6 htv hmu HTS;go_upto_region 9 with fail
        have hmu := HMU.out;go_wp2_with (with_reducible refine wpList_load_blk rfl 43 (.tmp 12) rfl w4.heap.size 43 #[.int .i64 q.r.id.1, .int .i64 q.r.id.2, .int .i64 q.r.st, .int .i64 q.r.bl.1, .int .i64 q.r.bl.2, .int .i64 q.r.tk.1, .int .i64 q.r.tk.2, .int .i64 q.r.cm.kd, .int .i64 q.r.cm.cl, .int .i64 q.r.cm.sq, .string q.r.cm.ky, .string q.r.cm.vl, .int .i64 q.r.cm.rv, .slice q.V q.n q.c, .int .i64 q.r.at_.sq, .int .i64 q.r.at_.tg] _ rfl HKB.out Tryz.underlying43 rfl (by kernel_rfl) ?_)
        go_roundw
        case rel => exact ⟨k + 1, qs ++ [q], _, by omega, by simp, by rw [HEND.out.1]; simp, by rw [List.length_append, HR.out.2.1]; rfl, HEND.out.2.1, HEND.out.2.2.1, HEND.out.2.2.2.1, HEND.out.2.2.2.2.1, HEND.out.2.2.2.2.2, HS6.out⟩
        case measure => simp [intOf]; omega
    · have hno : recOf 2 p.bs = none := by rw [HRO.out, if_neg h0]
      have hst := recs_stop HR.out.1 HR.out.2.2 hno;have b0 : ((ge : Int) != 0) = true := (by simpa using h0);have b1 : ((ge : Int) == 0) = false := (by simpa using h0);have HST := hid hst;clear hno hst h0;go_wp2_with fail
      go_ret2
      rw [HST.out];exact ⟨rfl, HB.out.1.trans (HBR.out.mono HB.out.1.size)⟩
  · obtain rfl : k = n := by omega
    have et : (ps.map (·.bs)).take k = ps.map (·.bs) := List.take_of_length_le (by rw [List.length_map]; have := LX.out; omega);rw [et] at hre;have hN := own_size hown;have hwq : ∀ q ∈ qs, Wf (ptId q) := fun q hq => (hqs q hq).1;have hb1 := bel_alloc (Below.refl wr.heap.size wr) (.cells #[.map (some (w.heap.size + 1))] 125);have hco := collect_any (w.heap.size + 1) k D wr.heap.size (wr.alloc (.cells #[.map (some (w.heap.size + 1))] 125)) ((Blk.new wr 125 #[.map (some (w.heap.size + 1))]).cell 0) (own_below hown hb1) (by omega);have HCO := hid hco;have HRE := hid hre;have HO := hid (And.intro hown hD);have HQ := hid hqs;have HWQ := hid hwq;have HB := hid (And.intro hbel (And.intro hb1 hN));clear hre hql hown hD hqs hfb hbel hsz et hN hwq hb1 hco;go_wp2_with fail
    refine (mapkeys_any _ _).mono ?_;rintro e w2 ⟨rfl, rfl⟩;go_wp2_with fail
    refine HCO.out.mono ?_;rintro e w3 ⟨V3, k3, ys, rfl, hall, hyl, hrs, hb3⟩;have hse := set_any ys V3 ys.length k3 w3 hrs (by have := HB.out.2.2; omega);have hids := all_ids hall HO.out.2 HWQ.out;have HSE := hid hse;have HID := hid (And.intro hids (And.intro hall.1 hyl));have HB3 := hid (HB.out.2.1.trans (hb3.mono HB.out.2.1.size));clear hall hyl hrs hb3 hse hids;go_wp2_with fail
    refine HSE.out.mono ?_;rintro e w5 ⟨V5, k5, rfl, hrs5, hb5⟩;have hb15 : Below wr.heap.size wr w5 := HB3.out.trans (hb5.mono HB3.out.size);have hheld := held_ids HID.out.1;have hmk : ∀ i ∈ setl ys, i ∈ qs.map ptId ∧ Wf i := fun i hi => ⟨(HID.out.1 i).1 ((mem_setl ys i).1 hi), HID.out.2.1 i ((mem_setl ys i).1 hi)⟩
    have hown5 := own_below HO.out.1 hb15;have HH := hid (And.intro hheld hmk);have HO5 := hid hown5;have HB5 := hid hb15;obtain ⟨ks, hks⟩ : ∃ ks, setl ys = ks := ⟨_, rfl⟩
    rw [hks] at HH hrs5 ⊢;have hlen := HB.out.2.2
    have hkl : ks.length ≤ 1000000000 := by
     rw [← hks];have h1 := length_setl ys;have h2 := HID.out.2.2;omega
    have HKL := hid hkl;have HRS5 := hid hrs5;clear hb5 hb15 hheld hmk hown5 hks hlen hkl hrs5 HSE HCO;go_wp2_with fail
    go_loopw [53, 14] (OutRel w5 qs ks) (fun i _ _ => ks.length - (intOf i).toNat)
    case atStart => exact ⟨0, none, 0, Nat.zero_le _, rfl, rfl, World.ownsRow_nil _ _ _ _, Below.refl _ _⟩
    case round =>
     obtain ⟨j, V, vc, hj, rfl, rfl, hown, hbel⟩ := hrel;have hj9 : j ≤ 1000000000 := (by have := HKL.out; omega);by_cases hlt : j < ks.length
     · obtain ⟨g, o, x, rfl, hgl, hx, hc0, hc1⟩ := HRS5.out.at_ hlt
       obtain ⟨hxm, hxw⟩ := HH.out.2 x (List.mem_of_getElem? hx);obtain ⟨hla, hqm⟩ := of_id hxm;have c0 := (hbel.cell (p := ⟨g, o + j * 2, none⟩) hgl).trans hc0;have c1 := (hbel.cell (p := ⟨g, o + j * 2 + 1, none⟩) hgl).trans hc1;have hbi := bel_alloc hbel (.cells #[.int .i64 x.1, .int .i64 x.2] 34);have hfi := HO.out.2.find (own_below HO5.out hbi) hxw hla;have hrow2 := ownsRow_below hown (bel_alloc (Below.refl wr.heap.size wr) (.cells #[.int .i64 x.1, .int .i64 x.2] 34));have hnx : (ks.take (j + 1)).map (ofId qs) = (ks.take j).map (ofId qs) ++ [ofId qs x] := (by rw [List.take_add_one, hx, List.map_append]; rfl);obtain ⟨q, hq⟩ : ∃ q, ofId qs x = q := ⟨_, rfl⟩
       rw [hq] at hfi hnx hqm;have hq2 := Rs.below (HQ.out q hqm).2.1 (HB5.out.trans (hbi.mono HB5.out.size));unfold idV val at hfi;obtain ⟨w6, hw6⟩ : ∃ w6, wr.alloc (.cells #[.int .i64 x.1, .int .i64 x.2] 34) = w6 := ⟨_, rfl⟩
       have hs6 : w6.heap.size = wr.heap.size + 1 := (by rw [← hw6]; simp);have b0 := (Blk.new wr 34 #[.int .i64 x.1, .int .i64 x.2]).cell 0;have b1 := (Blk.new wr 34 #[.int .i64 x.1, .int .i64 x.2]).cell 1;rw [hw6] at hfi hrow2 hq2 hbi b0 b1;simp only [List.getElem?_toArray, List.getElem?_cons_succ, List.getElem?_cons_zero] at b0 b1;have HROW := hid (ownsRow_below hrow2 (bel_alloc (Below.refl w6.heap.size w6) (.cells #[.int .i64 q.r.id.1, .int .i64 q.r.id.2, .int .i64 q.r.st, .int .i64 q.r.bl.1, .int .i64 q.r.bl.2, .int .i64 q.r.tk.1, .int .i64 q.r.tk.2, .int .i64 q.r.cm.kd, .int .i64 q.r.cm.cl, .int .i64 q.r.cm.sq, .string q.r.cm.ky, .string q.r.cm.vl, .int .i64 q.r.cm.rv, .slice q.V q.n q.c, .int .i64 q.r.at_.sq, .int .i64 q.r.at_.tg] 43)));have hlit := (Recs.lit w6 q 43 hq2).spot (by omega);obtain ⟨lg, lo, le, _, hlc⟩ := hlit;injection le with le;injection le with le1 le2;subst le1;subst le2;have hl0 := hlc 0 q rfl;have HL := hid hl0;have HNX := hid hnx;have HBI := hid (And.intro hbi (And.intro hs6 hbel));have HW6 := hid hw6;clear hown hbel hx hgl hc0 hc1 hla hrow2 hnx hq2 hbi hs6 hw6 hl0 hlc hq hqm hxm hxw;go_upto_region 15 with fail
       rw [HW6.out];clear c0 c1;obtain ⟨i0, hi, hz0, hz1, hz2⟩ := info_parts info_rec;go_wp2_with (at_builtin; refine wpList_append_own _ rfl (.tmp 57) (.tmp 61) 22 rfl w5.heap.size 43 i0 _ 16 160 Tryz.underlying22 hi hz0 hz1 hz2 rfl (by decide) _ j _ rfl HROW.out ⟨w6.heap.size, 0, none⟩ 1 1 (cellsOf q) rfl rfl (fun m u hu => by rw [Addr.add_lit]; exact HL.out m u hu) (cellsOf_one q) (by have := HKL.out; unfold maxLen; omega) (by have := HKL.out; omega) (by have h1 := HBI.out.1.size; simp; omega) ?_; intro v' w7 ho7 hg7 _; obtain ⟨V7, c7, rfl⟩ := own_form ho7)
       have hb7 : Below w5.heap.size w5 w7 := (bel_alloc HBI.out.1 (.cells #[.int .i64 q.r.id.1, .int .i64 q.r.id.2, .int .i64 q.r.st, .int .i64 q.r.bl.1, .int .i64 q.r.bl.2, .int .i64 q.r.tk.1, .int .i64 q.r.tk.2, .int .i64 q.r.cm.kd, .int .i64 q.r.cm.cl, .int .i64 q.r.cm.sq, .string q.r.cm.ky, .string q.r.cm.vl, .int .i64 q.r.cm.rv, .slice q.V q.n q.c, .int .i64 q.r.at_.sq, .int .i64 q.r.at_.tg] 43)).grown hg7 (bel_alloc HBI.out.1 (.cells #[.int .i64 q.r.id.1, .int .i64 q.r.id.2, .int .i64 q.r.st, .int .i64 q.r.bl.1, .int .i64 q.r.bl.2, .int .i64 q.r.tk.1, .int .i64 q.r.tk.2, .int .i64 q.r.cm.kd, .int .i64 q.r.cm.cl, .int .i64 q.r.cm.sq, .string q.r.cm.ky, .string q.r.cm.vl, .int .i64 q.r.cm.rv, .slice q.V q.n q.c, .int .i64 q.r.at_.sq, .int .i64 q.r.at_.tg] 43)).size fun m e => (HROW.out.lt m e).1;have e7 : flat ((ks.take j).map (ofId qs)) ++ cellsOf q = flat ((ks.take (j + 1)).map (ofId qs)) := (by rw [HNX.out, flat_append, flat_one]);rw [e7] at ho7;have H7 := hid (And.intro ho7 hb7);clear ho7 hg7 hb7 e7;go_roundw
       case rel => exact ⟨j + 1, V7, c7, by omega, by simp, rfl, H7.out.1, H7.out.2⟩
       case measure => simp [intOf]; omega
     · obtain rfl : j = ks.length := by omega
       have et : ks.take ks.length = ks := List.take_length;rw [et, ← HH.out.1] at hown;have hrs : Recs wr V ks.length vc (heldK ptId qs) := Recs.own hown fun q hq => Rs.below (HQ.out q (mem_heldK ptId hq)).2.1 (HB5.out.trans (hbel.mono HB5.out.size));have hbw := HB.out.1.trans ((HB5.out.trans (hbel.mono HB5.out.size)).mono HB.out.1.size)
       have hnv : ∀ g o, V = some ⟨g, o, none⟩ → w.heap.size ≤ g := fun g o e => by
        have h1 := (hown.lt g (by rw [e]; rfl)).1;have h2 := HB5.out.size;have h3 := HB.out.1.size;omega
       have HE := hid (And.intro hrs (And.intro hbw hnv));clear hown hbel et hrs hbw hnv;go_wp2_with fail
       go_ret2
       rw [HRE.out];exact ⟨V, ks.length, vc, heldK ptId qs, rfl, held_rc qs, HE.out.1, HE.out.2.2, fun q hq g o e => by have := (HQ.out q (mem_heldK ptId hq)).2.2 g o e; omega, HE.out.2.1⟩
end Go.Proofs.YtkejjdoaljoooaaGreatDoor.Sc
/- The program's read: a store's records, or why there are none; Version. -/
namespace Go.Proofs.YtkejjdoaljoooaaGreatDoor.Sc
open Lib (hid)
open Go.RowKit Mem Dsk Lg Rk
theorem read_of (v : Nat) {l lo : List (List Nat)} {lv le : Nat} (h : loadOf l = (lv, lo, le)) : readOf v l = if le ≠ 0 then ([], le) else if v < lv then ([], 13) else if 0 < lv ∧ lv < v then ([], 14) else match recsOf v lo with | none => ([], 19) | some rs => (heldK Rc.id rs, 0) := by
 unfold readOf;rw [h];rfl
theorem part_len {w : World} {p : Cr.Part} (h : Rd w p.A p.n p.c (cs p.bs)) : p.n = p.bs.length := by
 have := h.len;rw [length_cs] at this;exact this.symm
theorem read_end {I : Held} (hH : Has2 I) {p : Nat} {S S1 : Nat → Prop} {v : Nat} {l : List (List Nat)} {d : Dk} {w W w1 w2 : World} {x : Nat} (hb0 : Below w.heap.size w W) (hI : I w1 S1 p d) (hg : Dsk.Grew S S1 W) (hk : Keeps S W w1) (hb : Below w1.heap.size w1 w2) (he : readOf v l = ([], x)) :
 ReadIs I p S v l d w (.returned (.tuple #[.slice none 0 0, .int .i64 (x : Int)])) w2 :=
 ⟨none, 0, 0, [], by rw [he], by rw [he]; rfl, fun _ => ⟨rfl, rfl, rfl⟩, S1, have_bel hH hI hb, (Dsk.Grew.refl S w).trans hg hb0.size, ((Keeps.ofBelow (S := S) hb0).trans hk (Dsk.Grew.refl S w)).trans (Keeps.ofBelow (S := S1) hb) ((Dsk.Grew.refl S w).trans hg hb0.size), Recs.nil_frame w2 S1⟩
theorem read_fine {I : Held} (hH : Has2 I) {p : Nat} {S S1 : Nat → Prop} {v : Nat} {l : List (List Nat)} {d : Dk} {w W w1 w2 : World} {rs : List Rc} {V : Option Addr} {n c : Nat} {qs : List Pt} (hb0 : Below w.heap.size w W) (hI : I w1 S1 p d) (hg : Dsk.Grew S S1 W) (hk : Keeps S W w1) (hb : Below w1.heap.size w1 w2) (he : readOf v l = (rs, 0)) (hq : qs.map (·.r) = rs) (hr : Recs w2 V n c qs) (hn : ∀ g o, V = some ⟨g, o, none⟩ → w1.heap.size ≤ g) (hd : ∀ q ∈ qs, ∀ g o, q.V = some ⟨g, o, none⟩ → w1.heap.size ≤ g) :
 ReadIs I p S v l d w (.returned (.tuple #[.slice V n c, .int .i64 0])) w2 :=
 ⟨V, n, c, qs, by rw [he]; rfl, by rw [he]; exact hq, fun h => by rw [he] at h; exact absurd rfl h, S1, have_bel hH hI hb, (Dsk.Grew.refl S w).trans hg hb0.size, ((Keeps.ofBelow (S := S) hb0).trans hk (Dsk.Grew.refl S w)).trans (Keeps.ofBelow (S := S1) hb) ((Dsk.Grew.refl S w).trans hg hb0.size),
  ⟨hr, fun _ g o e hs => (by have := hn g o e; have := hH.low hI _ hs; omega), fun q hq' => frs_new (hr.dep q hq') (hd q hq') (hH.low hI)⟩⟩
set_option maxRecDepth 20000 in
set_option maxHeartbeats 4000000 in
theorem read_1 {I : Held} (hH : Has2 I) (hL : HLoad I) (p : Nat) (S : Nat → Prop) (d d2 : Dk) (c : List Nat) (l : List (List Nat)) (r : List Nat) (w : World) (hI : I w S p d) (ht : FTab w S) (hR : Rdb d d2 c l r) :
 Calls Tryz.prog 19 #[formV 1, Dsk.ptr p] w (ReadIs I p S 1 l d w) := by
 obtain ⟨W, hW⟩ : ∃ W, w.alloc (.cells #[.int .i64 1, .func (.func 32) #[] #[], .func (.func 33) #[] #[]] 61) = W := ⟨_, rfl⟩
 have hb0 : Below w.heap.size w W := by rw [← hW]; exact bel_alloc (Below.refl _ _) _
 have hblk : Blk W w.heap.size 61 #[.int .i64 1, .func (.func 32) #[] #[], .func (.func 33) #[] #[]] := by rw [← hW]; exact Blk.new w _ _
 have hns : ¬ S w.heap.size := fun hs => Nat.lt_irrefl _ (hH.low hI _ hs);have hld := hL p S d d2 c l r W (have_bel hH hI hb0) (frame_tab.go ht (Keeps.ofBelow hb0) (Dsk.Grew.refl S w)) hR;have HLD := hid hld;have H0 := hid (And.intro hb0 (And.intro hblk hns));have HW := hid hW;have HR := hid hR;have HH := hid hH;have l2 := load_two l;have ls := load_sub l;obtain ⟨lv, lo, le, hlo⟩ : ∃ lv lo le, loadOf l = (lv, lo, le) := ⟨_, _, _, rfl⟩
 have hrf := read_of 1 hlo;rw [hlo] at l2 ls;simp only at l2 ls;have LS := hid ls;have RF := hid hrf;have L2 := hid l2;unfold LoadIs at HLD;rw [hlo] at HLD;clear hld hb0 hblk hns hW hI ht hR hH l2 ls hlo hrf;unfold formV formC Dsk.ptr at *;go_enter Tryz.func19, Tryz.ntmps19
 go_upto_region 1 with fail
 rw [HW.out];go_wp2_with fail
 refine HLD.out.mono ?_;rintro e w1 ⟨V, n, vc, ps, rfl, hbs, S1, hI1, hg1, hk1, hm1⟩;have hbs : ps.map (·.bs) = lo := hbs;have hblk1 : Blk w1 w.heap.size 61 #[.int .i64 1, .func (.func 32) #[] #[], .func (.func 33) #[] #[]] := (hk1.block w.heap.size H0.out.2.1.lt H0.out.2.2).trans H0.out.2.1;have c0 := hblk1.cell 0;have c1 := hblk1.cell 1;have c2 := hblk1.cell 2;simp only [List.getElem?_toArray, List.getElem?_cons_succ, List.getElem?_cons_zero] at c0 c1 c2
 have hpl : ∀ p ∈ ps, p.n ≤ 1000000 := fun p hp => by
  rw [part_len (hm1.2 p hp).1.1];exact HR.out.le _ (LS.out.1 _ (by rw [← hbs]; exact List.mem_map_of_mem hp))
 have hnl : n ≤ 1000000000 := by
  have h1 := hm1.1.1.len;rw [List.length_map] at h1;have h2 := congrArg List.length hbs;rw [List.length_map] at h2;have h3 := LS.out.2;have h4 := HR.out.cnt;omega
 have hre := records_1 V n vc ps w1 hm1.mat hpl hnl;rw [hbs] at hre;have HX := hid (And.intro hI1 (And.intro hg1 hk1));have HRE := hid hre;clear hI1 hg1 hk1 hm1 hbs hblk1 hpl hnl hre HLD;by_cases h0 : le = 0
 · subst h0
   rcases L2.out with rfl | rfl | rfl
   · have hE := RF.out
     rw [if_neg (by simp), if_neg (by omega), if_neg (by omega)] at hE;have HE := hid hE;clear hE;go_wp2_with fail
     refine HRE.out.mono ?_;obtain ⟨o, ho⟩ : ∃ o, recsOf 1 lo = o := ⟨_, rfl⟩
     rw [ho] at HE ⊢;cases o with
     | none =>
       rintro e w2 ⟨rfl, hb2⟩;have HB2 := hid hb2;clear hb2;go_wp2_with fail
       go_ret2
       exact read_end HH.out H0.out.1 HX.out.1 HX.out.2.1 HX.out.2.2 HB2.out HE.out
     | some rs =>
       rintro e w2 ⟨V2, n2, k2, qs, rfl, hq, hr2, hn2, hd2, hb2⟩;have HB2 := hid (And.intro hb2 (And.intro hq (And.intro hr2 (And.intro hn2 hd2))));clear hb2 hq hr2 hn2 hd2;go_wp2_with fail
       go_ret2
       exact read_fine HH.out H0.out.1 HX.out.1 HX.out.2.1 HX.out.2.2 HB2.out.1 HE.out HB2.out.2.1 HB2.out.2.2.1 HB2.out.2.2.2.1 HB2.out.2.2.2.2
   · have hE := RF.out
     rw [if_neg (by simp), if_neg (by omega), if_neg (by omega)] at hE;have HE := hid hE;clear hE;go_wp2_with fail
     refine HRE.out.mono ?_;obtain ⟨o, ho⟩ : ∃ o, recsOf 1 lo = o := ⟨_, rfl⟩
     rw [ho] at HE ⊢;cases o with
     | none =>
       rintro e w2 ⟨rfl, hb2⟩;have HB2 := hid hb2;clear hb2;go_wp2_with fail
       go_ret2
       exact read_end HH.out H0.out.1 HX.out.1 HX.out.2.1 HX.out.2.2 HB2.out HE.out
     | some rs =>
       rintro e w2 ⟨V2, n2, k2, qs, rfl, hq, hr2, hn2, hd2, hb2⟩;have HB2 := hid (And.intro hb2 (And.intro hq (And.intro hr2 (And.intro hn2 hd2))));clear hb2 hq hr2 hn2 hd2;go_wp2_with fail
       go_ret2
       exact read_fine HH.out H0.out.1 HX.out.1 HX.out.2.1 HX.out.2.2 HB2.out.1 HE.out HB2.out.2.1 HB2.out.2.2.1 HB2.out.2.2.2.1 HB2.out.2.2.2.2
   · have hE := RF.out
     rw [if_neg (by simp), if_pos (by omega)] at hE;have HE := hid hE;clear hE;go_wp2_with fail
     go_ret2
     exact read_end HH.out H0.out.1 HX.out.1 HX.out.2.1 HX.out.2.2 (Below.refl _ _) HE.out
 · have b0 : ((le : Int) != 0) = true := by rw [bne_iff_ne]; omega
   have hE := RF.out;rw [if_pos h0] at hE;have HE := hid hE;clear h0 hE;go_wp2_with fail
   go_ret2
   exact read_end HH.out H0.out.1 HX.out.1 HX.out.2.1 HX.out.2.2 (Below.refl _ _) HE.out
set_option maxRecDepth 20000 in
set_option maxHeartbeats 4000000 in
theorem read_2 {I : Held} (hH : Has2 I) (hL : HLoad I) (p : Nat) (S : Nat → Prop) (d d2 : Dk) (c : List Nat) (l : List (List Nat)) (r : List Nat) (w : World) (hI : I w S p d) (ht : FTab w S) (hR : Rdb d d2 c l r) :
 Calls Tryz.prog 19 #[formV 2, Dsk.ptr p] w (ReadIs I p S 2 l d w) := by
 obtain ⟨W, hW⟩ : ∃ W, w.alloc (.cells #[.int .i64 2, .func (.func 34) #[] #[], .func (.func 35) #[] #[]] 61) = W := ⟨_, rfl⟩
 have hb0 : Below w.heap.size w W := by rw [← hW]; exact bel_alloc (Below.refl _ _) _
 have hblk : Blk W w.heap.size 61 #[.int .i64 2, .func (.func 34) #[] #[], .func (.func 35) #[] #[]] := by rw [← hW]; exact Blk.new w _ _
 have hns : ¬ S w.heap.size := fun hs => Nat.lt_irrefl _ (hH.low hI _ hs);have hld := hL p S d d2 c l r W (have_bel hH hI hb0) (frame_tab.go ht (Keeps.ofBelow hb0) (Dsk.Grew.refl S w)) hR;have HLD := hid hld;have H0 := hid (And.intro hb0 (And.intro hblk hns));have HW := hid hW;have HR := hid hR;have HH := hid hH;have l2 := load_two l;have ls := load_sub l;obtain ⟨lv, lo, le, hlo⟩ : ∃ lv lo le, loadOf l = (lv, lo, le) := ⟨_, _, _, rfl⟩
 have hrf := read_of 2 hlo;rw [hlo] at l2 ls;simp only at l2 ls;have LS := hid ls;have RF := hid hrf;have L2 := hid l2;unfold LoadIs at HLD;rw [hlo] at HLD;clear hld hb0 hblk hns hW hI ht hR hH l2 ls hlo hrf;unfold formV formC Dsk.ptr at *;go_enter Tryz.func19, Tryz.ntmps19
 go_upto_region 1 with fail
 rw [HW.out];go_wp2_with fail
 refine HLD.out.mono ?_;rintro e w1 ⟨V, n, vc, ps, rfl, hbs, S1, hI1, hg1, hk1, hm1⟩;have hbs : ps.map (·.bs) = lo := hbs;have hblk1 : Blk w1 w.heap.size 61 #[.int .i64 2, .func (.func 34) #[] #[], .func (.func 35) #[] #[]] := (hk1.block w.heap.size H0.out.2.1.lt H0.out.2.2).trans H0.out.2.1;have c0 := hblk1.cell 0;have c1 := hblk1.cell 1;have c2 := hblk1.cell 2;simp only [List.getElem?_toArray, List.getElem?_cons_succ, List.getElem?_cons_zero] at c0 c1 c2
 have hpl : ∀ p ∈ ps, p.n ≤ 1000000 := fun p hp => by
  rw [part_len (hm1.2 p hp).1.1];exact HR.out.le _ (LS.out.1 _ (by rw [← hbs]; exact List.mem_map_of_mem hp))
 have hnl : n ≤ 1000000000 := by
  have h1 := hm1.1.1.len;rw [List.length_map] at h1;have h2 := congrArg List.length hbs;rw [List.length_map] at h2;have h3 := LS.out.2;have h4 := HR.out.cnt;omega
 have hre := records_2 V n vc ps w1 hm1.mat hpl hnl;rw [hbs] at hre;have HX := hid (And.intro hI1 (And.intro hg1 hk1));have HRE := hid hre;clear hI1 hg1 hk1 hm1 hbs hblk1 hpl hnl hre HLD;by_cases h0 : le = 0
 · subst h0
   rcases L2.out with rfl | rfl | rfl
   · have hE := RF.out
     rw [if_neg (by simp), if_neg (by omega), if_neg (by omega)] at hE;have HE := hid hE;clear hE;go_wp2_with fail
     refine HRE.out.mono ?_;obtain ⟨o, ho⟩ : ∃ o, recsOf 2 lo = o := ⟨_, rfl⟩
     rw [ho] at HE ⊢;cases o with
     | none =>
       rintro e w2 ⟨rfl, hb2⟩;have HB2 := hid hb2;clear hb2;go_wp2_with fail
       go_ret2
       exact read_end HH.out H0.out.1 HX.out.1 HX.out.2.1 HX.out.2.2 HB2.out HE.out
     | some rs =>
       rintro e w2 ⟨V2, n2, k2, qs, rfl, hq, hr2, hn2, hd2, hb2⟩;have HB2 := hid (And.intro hb2 (And.intro hq (And.intro hr2 (And.intro hn2 hd2))));clear hb2 hq hr2 hn2 hd2;go_wp2_with fail
       go_ret2
       exact read_fine HH.out H0.out.1 HX.out.1 HX.out.2.1 HX.out.2.2 HB2.out.1 HE.out HB2.out.2.1 HB2.out.2.2.1 HB2.out.2.2.2.1 HB2.out.2.2.2.2
   · have hE := RF.out
     rw [if_neg (by simp), if_neg (by omega), if_pos (by omega)] at hE;have HE := hid hE;clear hE;go_wp2_with fail
     go_ret2
     exact read_end HH.out H0.out.1 HX.out.1 HX.out.2.1 HX.out.2.2 (Below.refl _ _) HE.out
   · have hE := RF.out
     rw [if_neg (by simp), if_neg (by omega), if_neg (by omega)] at hE;have HE := hid hE;clear hE;go_wp2_with fail
     refine HRE.out.mono ?_;obtain ⟨o, ho⟩ : ∃ o, recsOf 2 lo = o := ⟨_, rfl⟩
     rw [ho] at HE ⊢;cases o with
     | none =>
       rintro e w2 ⟨rfl, hb2⟩;have HB2 := hid hb2;clear hb2;go_wp2_with fail
       go_ret2
       exact read_end HH.out H0.out.1 HX.out.1 HX.out.2.1 HX.out.2.2 HB2.out HE.out
     | some rs =>
       rintro e w2 ⟨V2, n2, k2, qs, rfl, hq, hr2, hn2, hd2, hb2⟩;have HB2 := hid (And.intro hb2 (And.intro hq (And.intro hr2 (And.intro hn2 hd2))));clear hb2 hq hr2 hn2 hd2;go_wp2_with fail
       go_ret2
       exact read_fine HH.out H0.out.1 HX.out.1 HX.out.2.1 HX.out.2.2 HB2.out.1 HE.out HB2.out.2.1 HB2.out.2.2.1 HB2.out.2.2.2.1 HB2.out.2.2.2.2
 · have b0 : ((le : Int) != 0) = true := by rw [bne_iff_ne]; omega
   have hE := RF.out;rw [if_pos h0] at hE;have HE := hid hE;clear h0 hE;go_wp2_with fail
   go_ret2
   exact read_end HH.out H0.out.1 HX.out.1 HX.out.2.1 HX.out.2.2 (Below.refl _ _) HE.out
theorem read_any {I : Held} (hH : Has2 I) (hL : HLoad I) : HRead I := by
 intro v hv p S d d2 c l r w hI ht hR;rcases hv with rfl | rfl
 · exact read_1 hH hL p S d d2 c l r w hI ht hR
 · exact read_2 hH hL p S d d2 c l r w hI ht hR
set_option maxHeartbeats 1000000 in
theorem version_any {I : Held} (hL : HLoad I) : HVersion I := by
 intro p S d d2 c l r w hI ht hR;have hld := hL p S d d2 c l r w hI ht hR;have HLD := hid hld;clear hld hI ht hR;unfold Dsk.ptr at *;go_enter Tryz.func16, Tryz.ntmps16
 go_wp2_with fail
 refine HLD.out.mono ?_;rintro e w1 ⟨V, n, vc, ps, rfl, hbs, S1, hI1, hg1, hk1, hm1⟩;have HX := hid (And.intro hI1 (And.intro hg1 hk1));clear hI1 hg1 hk1 hm1 hbs;go_wp2_with fail
 go_ret2
 exact ⟨rfl, S1, HX.out⟩
end Go.Proofs.YtkejjdoaljoooaaGreatDoor.Sc
