/-
  Texts of earlier layers, as one.
-/
import Derived.Test.YthkbmmebfkaphaaDoorDskMoves
import Derived.Test.YthkbmmebfkaphaaDoorDskSize
import Derived.Test.YthkbmmebfkaphaaDoorRBase
import Derived.Maps.AppendAt
import Derived.Deep.RegionHeld
import Derived.Deep.Cut
import Derived.Laws.Pointers
/- The program's Append. -/
namespace Go.Proofs.YthkbmmebfkaphaaDoor.Dsk
open Go.RowKit Mem Go.Maps

/-- Bytes put behind a row, whatever they lie in: in the row, or in new memory. -/
theorem append_at {w : World} {V : Option Addr} {n cv : Nat} {xs : List Value} (hown : w.ownsRow 0 5 1 (.slice V n cv) n xs) {A : Option Addr} {k c : Nat} {news : List Value} (hr : Rd w A k c news) (h1 : ∀ u ∈ news, u.oneCell' = true)
    (h63 : n + k ≤ maxLen) (hb : n + k ≤ 140737488355328) (ty : TypeId) :
    ∃ V' c' w', (Builtin.append_ #[32, 32] ty #[.slice V n cv, .slice A k c]).run Tryd.prog w = .ok (.slice V' (n + k) c') w' ∧ w'.ownsRow 0 5 1 (.slice V' (n + k) c') (n + k) (xs ++ news) ∧ w.grownBy w' (Value.slice V n cv).ownBlock ∧
      ((Value.slice V' (n + k) c').ownBlock = (Value.slice V n cv).ownBlock ∨ (Value.slice V' (n + k) c').ownBlock = some w.heap.size) := by
  obtain ⟨i0, hi, hz0, hz1, hz2⟩ := info_parts info5
  rcases A with _ | ad
  · have hc : c = 0 := hr.nil rfl
    have hm : k = 0 := by have := hr.le; omega
    subst hc
    subst hm
    have hn : news = [] := List.eq_nil_of_length_eq_zero hr.len
    subst hn
    exact ⟨V, cv, w, run_append_owned_none (P := Tryd.prog) (w := w) 0 32 ty 5 i0 1 Tryd.underlying32 hi _ n xs hown, by simpa using hown, ⟨rfl, rfl, rfl, Nat.le_refl _, fun _ _ _ => rfl⟩, .inl rfl⟩
  · obtain ⟨v', w', hrun, ho, hg, hnil, hloc⟩ := run_append_own_at (P := Tryd.prog) w 0 32 ty 5 i0 _ 1 1 Tryd.underlying32 hi hz0 hz1 hz2 rfl (by omega) _ n xs hown ad k c news (by rw [hr.len, Nat.mul_one]) (hr.cells _ rfl) h1 h63 (by omega) (Nat.zero_le _)
    obtain ⟨V', c', rfl, _⟩ := Rd.of_own ho
    exact ⟨V', c', w', hrun, ho, hg, hloc⟩
theorem step_append_at {w : World} {ops : Array Oper} {o : Oper} {a : Act} {K : Act → World → Prop} {Q : Exit → Act → World → Prop} {E : Prop} (hgd : o.guard = none) (s x : Operand)
    (ho : o.op = .call { callee := .builtin .append, args := #[s, x], argTypes := #[32, 32] })
    {V : Option Addr} {n cv : Nat} {xs : List Value} (hs : a.eval s = .slice V n cv) (hown : w.ownsRow 0 5 1 (.slice V n cv) n xs)
    {A : Option Addr} {m c : Nat} {news : List Value} (hx : a.eval x = .slice A m c) (hr : Rd w A m c news) (h1 : ∀ u ∈ news, u.oneCell' = true) (h63 : n + m ≤ maxLen) (hb : n + m ≤ 140737488355328)
    (h : ∀ V' c' w', w'.ownsRow 0 5 1 (.slice V' (n + m) c') (n + m) (xs ++ news) → w.grownBy w' (Value.slice V n cv).ownBlock → ((Value.slice V' (n + m) c').ownBlock = (Value.slice V n cv).ownBlock ∨ (Value.slice V' (n + m) c').ownBlock = some w.heap.size) → K (a.put o.dst (.slice V' (n + m) c')) w') :
    if Region.wanted o (yielded ops a.tmps) = true then Oper.wp Tryd.prog o a w K Q else E := by
  have hw : Region.wanted o (yielded ops a.tmps) = true := by simp [Region.wanted, hgd]
  rw [if_pos hw]
  obtain ⟨V', c', w', hrun, ho', hg, hl⟩ := append_at hown hr h1 h63 hb o.type
  unfold Oper.wp
  simp [execOp, ho, resolve, invoke, builtin, hs, hx, hrun, Result.andThen]
  exact h V' c' w' ho' hg hl
theorem grow_turned {w u : World} {x : Pf} {n bn c' : Nat} {V' : Option Addr} {bs : List Nat} (hin : PfIn w x) (hn : x.f.all.length = n) (hown : u.ownsRow 0 5 1 (.slice V' (n + bn) c') (n + bn) (cs x.f.all ++ cs bs))
    (hgr : w.grownBy u (Value.slice x.A n x.c).ownBlock) (hloc : (Value.slice V' (n + bn) c').ownBlock = (Value.slice x.A n x.c).ownBlock ∨ (Value.slice V' (n + bn) c').ownBlock = some w.heap.size) :
    Turned x ⟨x.f.nm, x.f.sure, x.f.tail ++ bs⟩ w (u.setCell ⟨x.b, 0, none⟩ (.slice V' (n + bn) c')) := by
  have hval : x.val = .slice x.A n x.c := by unfold Pf.val; rw [hn]
  rw [← hval] at hgr hloc
  have hall : (⟨x.f.nm, x.f.sure, x.f.tail ++ bs⟩ : Fl).all = x.f.all ++ bs := (List.append_assoc _ _ _).symm
  have hlen : (x.f.all ++ bs).length = n + bn := by
    have h1 := hown.1
    rw [List.length_append, length_cs, length_cs, Nat.mul_one] at h1
    rw [List.length_append, h1]
  have hv : (⟨⟨x.f.nm, x.f.sure, x.f.tail ++ bs⟩, x.b, V', c'⟩ : Pf).val = .slice V' (n + bn) c' := by
    unfold Pf.val
    rw [hall, hlen]
  have hxl := hin.box.lt
  have hbu : Blk u x.b 61 #[x.val, .int .i64 (x.f.sure.length : Int)] := hin.box.grown hgr fun e => hin.self e.symm
  have hne : ∀ j, (Value.slice V' (n + bn) c').ownBlock = some j → j ≠ x.b := by
    intro j hj e
    rcases hloc with h | h
    · rw [h] at hj
      exact hin.self (by rw [hj, e])
    · rw [h] at hj
      injection hj with hj
      omega
  have hset : ∀ j, j ≠ x.b → (u.setCell ⟨x.b, 0, none⟩ (.slice V' (n + bn) c')).heap[j]? = u.heap[j]? := fun j hj => Below.heap_setCell u ⟨x.b, 0, none⟩ _ j hj
  refine ⟨⟨⟨x.f.nm, x.f.sure, x.f.tail ++ bs⟩, x.b, V', c'⟩, rfl, rfl, ⟨?_, ?_, ?_⟩, ?_, ⟨hgr.os, hgr.tape, hgr.output, by simpa using hgr.size, fun k hk hn' => ?_⟩⟩
  · rw [hv]
    exact hbu.put 0 (.slice V' (n + bn) c')
  · rw [hv]
    show World.ownsRow _ 0 _ 1 _ (⟨x.f.nm, x.f.sure, x.f.tail ++ bs⟩ : Fl).all.length (cs (⟨x.f.nm, x.f.sure, x.f.tail ++ bs⟩ : Fl).all)
    rw [hall, hlen, cs_append]
    exact row_keep hown fun j hj => hset j (hne j hj)
  · rw [hv]
    exact fun e => hne _ e rfl
  · rw [hv]
    intro k hk
    rcases hloc with h | h
    · exact .inl (by rw [← h, hk])
    · rw [h] at hk
      injection hk with hk
      exact .inr (by omega)
  · exact (hset k fun e => hn' (.inl e)).trans (hgr.block k hk fun e => hn' (.inr e.symm))
theorem Does.step {S S1 : Nat → Prop} {p : Nat} {r : Nat × Dk} {w w1 w' : World} {e : Ending} (h : Does DI p S1 r w1 e w') (hk : Keeps S w w1) (hg : Grew S S1 w) : Does DI p S r w e w' := by
  obtain ⟨he, S', h1, h2, h3⟩ := h
  have hz := hk.size
  refine ⟨he, S', h1, fun k hk' => ?_, ⟨h3.os.trans hk.os, h3.tape.trans hk.tape, h3.output.trans hk.output, Nat.le_trans hz h3.size, fun k hk' hn => ?_⟩⟩
  · rcases h2 k hk' with h | h
    · exact hg k h
    · exact .inr (by omega)
  · refine (h3.block k (by omega) fun hs => ?_).trans (hk.block k hk' hn)
    rcases hg k hs with h | h
    · exact hn h
    · omega
theorem put_set {f g : Fl} {l : List Fl} {i : Nat} {y : Fl} (hn : ∀ x ∈ l, x.nm ≠ f.nm) (hg : g.nm = f.nm) (hi : (put f l)[i]? = some y) (hy : y.nm = f.nm) : (put f l).set i g = put g l := by
  induction l generalizing i with
  | nil =>
    cases i with
    | zero => rfl
    | succ i => simp [put] at hi
  | cons a r ih =>
    unfold put at hi ⊢
    rw [hg]
    split
    · rename_i hgt
      rw [if_pos hgt] at hi
      cases i with
      | zero => rfl
      | succ i =>
        have : y ∈ a :: r := List.mem_of_getElem? hi
        exact absurd hy (hn y this)
    · rename_i hgt
      rw [if_neg hgt] at hi
      cases i with
      | zero =>
        injection hi with hi
        exact absurd (by rw [hi]; exact hy) (hn a (by simp))
      | succ i =>
        rw [List.set_cons_succ, ih (fun x hx => hn x (by simp [hx])) hi]
set_option maxRecDepth 20000 in
set_option maxHeartbeats 4000000 in
theorem append1_any (p m b0 b1 b2 : Nat) (S : Nat → Prop) (d : Dk) (hs : List Pf) (s : ByteArray) (BA : Option Addr) (bn bc : Nat) (bs : List Nat) (w : World) (h : Own w S p m d hs) (hf : Fine d) (hsz : s.size ≤ 9223372036854775807) (hbn : bn ≤ 1099511627776)
    (k0 : Blk w b0 25 #[(.pointer (some ⟨p, 0, none⟩))]) (k1 : Blk w b1 9 #[.string s]) (k2 : Blk w b2 32 #[.slice BA bn bc]) (n0 : ¬ S b0) (n1 : ¬ S b1) (n2 : ¬ S b2) (hr : Rd w BA bn bc (cs bs)) (ho : Outs S bn BA) :
    Calls Tryd.prog 40 #[.pointer (some ⟨b0, 0, none⟩), .pointer (some ⟨b1, 0, none⟩), .pointer (some ⟨b2, 0, none⟩)] w (Does DI p S (doAppend s bs d) w) := by
  have c0 := h.cells.1
  have q0 := k0.cell 0
  have q1 := k1.cell 0
  simp only [List.getElem?_toArray, List.getElem?_cons_zero] at q0 q1
  have hbl : bs.length = bn := by have := hr.len; rwa [length_cs] at this
  have hfind := fun (q : Nat) => (h.below (below_drewN (Below.refl w.heap.size w) q)).find (s := s) (by unfold maxLen; omega)
  obtain ⟨o, hlook⟩ : ∃ o, look hs s = o := ⟨_, rfl⟩
  rw [hlook] at hfind
  obtain ⟨t0, ht0⟩ : ∃ t0, isName s = t0 := ⟨_, rfl⟩
  have HN := Lib.hid (fun (u : World) => isname_any s u hsz)
  rw [ht0] at HN
  have HH := Lib.hid h
  have HF := Lib.hid hf
  have HK0 := Lib.hid k0
  have HK1 := Lib.hid k1
  have HK2 := Lib.hid k2
  have HN0 := Lib.hid n0
  have HN1 := Lib.hid n1
  have HN2 := Lib.hid n2
  have HR := Lib.hid hr
  have HOU := Lib.hid ho
  have HBN := Lib.hid hbn
  have HBL := Lib.hid hbl
  have HLK := Lib.hid hlook
  have HT0 := Lib.hid ht0
  clear h hf k0 k1 k2 n0 n1 n2 hr ho hbn hbl hlook ht0 hsz
  go_enter Tryd.func40, Tryd.ntmps40
  go_upto_region 1 with fail
  go_quiet (fail)
  go_upto_region 2 with fail
  obtain ⟨w1, hw1⟩ : ∃ v, w.drewN nq = v := ⟨_, rfl⟩
  have hb1 : Below w.heap.size w w1 := by rw [← hw1]; exact below_drewN (Below.refl _ _) nq
  have hz1 : w1.heap.size = w.heap.size := by rw [← hw1]; rfl
  have HH1 := Lib.hid (HH.out.below hb1)
  have HB1 := Lib.hid hb1
  have HZ1 := Lib.hid hz1
  have q0 := (HK0.out.bel hb1).cell 0
  have q1 := (HK1.out.bel hb1).cell 0
  simp only [List.getElem?_toArray, List.getElem?_cons_zero] at q0 q1
  rw [hw1]
  clear hfind c0 hb1 hz1 hw1
  cases t0 with
  | false =>
    have e : doAppend s bs d = (1, d) := by
      unfold doAppend
      rw [if_pos HT0.out]
    have HE := Lib.hid e
    have HD := Lib.hid (show Does DI p S (1, d) w (.returned (.int .i64 ((1 : Nat) : Int))) w1 from Does.stay ⟨m, hs, HH1.out⟩ (Keeps.ofBelow HB1.out))
    clear e
    go_wp2_with fail
    refine (HN.out _).mono ?_
    rintro e u ⟨rfl, hu⟩
    replace hu := hu.symm
    subst hu
    clear HN
    go_wp2_with fail
    go_ret
    rw [HE.out]
    exact HD.out
  | true =>
    have hu := HF.out.used
    have hroom := HF.out.1.2.1
    have hroom2 := HF.out.2.1
    obtain ⟨U, hU⟩ : ∃ v, used d.fs = v := ⟨_, rfl⟩
    obtain ⟨room, hrm⟩ : ∃ v, d.room = v := ⟨_, rfl⟩
    have hsi := size_any p m S d hs w1.drew (HH1.out.below (Below.drew (Below.refl _ _))) (by omega)
    rw [hU] at hsi hu hroom
    rw [hrm] at hroom hroom2
    obtain ⟨t, ht⟩ : ∃ t, decide (room - (U : Int) < (bn : Int)) = t := ⟨_, rfl⟩
    have hwr : IntKind.i64.wrap (room - (U : Int)) = room - (U : Int) := wrap64 (by omega) (by omega)
    have hr1 := HH1.out.cells.2.1
    rw [hrm] at hr1
    have q2 := (HK2.out.bel HB1.out).cell 0
    simp only [List.getElem?_toArray, List.getElem?_cons_zero] at q2
    have HSI := Lib.hid hsi
    have HS1 := Lib.hid (show w1.drew.cell? ⟨b2, 0, none⟩ = some (.slice BA bn bc) ∧ w1.drew.cell? ⟨b0, 0, none⟩ = some (.pointer (some ⟨p, 0, none⟩)) ∧ w1.drew.cell? ⟨p, 1, none⟩ = some (.int .i64 room) from ⟨q2, q0, hr1⟩)
    have HL := Lib.hid (show b2 < w1.drew.heap.size ∧ b0 < w1.drew.heap.size ∧ p < w1.drew.heap.size from ⟨(HK2.out.bel HB1.out).lt, (HK0.out.bel HB1.out).lt, HH1.out.box.lt⟩)
    have HT := Lib.hid ht
    have HUU := Lib.hid hU
    have HRM := Lib.hid hrm
    have HROOM := Lib.hid hroom
    have HROOM2 := Lib.hid hroom2
    have HUB := Lib.hid hu
    clear hsi hr1 q2 hU hrm hroom hroom2 hu
    go_upto_region 4 with (go_at_call 41; refine (HN.out _).mono ?_; rintro e u ⟨rfl, hu⟩; replace hu := hu.symm; subst hu; clear HN)
    refine wp_region_held_drew (S := (fun w' => w'.cell? ⟨b2, 0, none⟩ = some (.slice BA bn bc) ∧ w'.cell? ⟨b0, 0, none⟩ = some (.pointer (some ⟨p, 0, none⟩)) ∧ w'.cell? ⟨p, 1, none⟩ = some (.int .i64 room))) (by kernel_rfl) (by first | (with_reducible exact HS2.out) | (with_reducible exact HS1.out)) (fun hHeld => ?_)
    refine held_take (i := 0) (d := 16) (v := (.slice BA bn bc)) rfl rfl (by kernel_rfl) (by kernel_rfl) (by kernel_rfl) (fun _ _ _ h => h) (by kernel_rfl) (fun w hSw => by (obtain ⟨hS0, hS1, hS2⟩ := hSw); go_simp) hHeld ?_
    try simp only [List.setIfInBounds_toArray, List.set_cons_zero, List.set_cons_succ]
    refine held_take (i := 1) (d := 17) (v := (.int .i64 (bn : Int))) rfl rfl (by kernel_rfl) (by kernel_rfl) (by kernel_rfl) (fun _ _ _ h => h) (by kernel_rfl) (fun w hSw => by (obtain ⟨hS0, hS1, hS2⟩ := hSw); go_simp) hHeld ?_
    try simp only [List.setIfInBounds_toArray, List.set_cons_zero, List.set_cons_succ]
    refine held_take (i := 2) (d := 18) (v := (.pointer (some ⟨p, 0, none⟩))) rfl rfl (by kernel_rfl) (by kernel_rfl) (by kernel_rfl) (fun _ _ _ h => h) (by kernel_rfl) (fun w hSw => by (obtain ⟨hS0, hS1, hS2⟩ := hSw); go_simp) hHeld ?_
    try simp only [List.setIfInBounds_toArray, List.set_cons_zero, List.set_cons_succ]
    refine held_take (i := 3) (d := 19) (v := (.pointer (some ⟨p, 0, none⟩))) rfl rfl (by kernel_rfl) (by kernel_rfl) (by kernel_rfl) (fun _ _ _ h => h) (by kernel_rfl) (fun w hSw => by (obtain ⟨hS0, hS1, hS2⟩ := hSw); go_simp) hHeld ?_
    try simp only [List.setIfInBounds_toArray, List.set_cons_zero, List.set_cons_succ]
    refine held_take (i := 4) (d := 20) (v := (.pointer (some ⟨p, 1, none⟩))) rfl rfl (by kernel_rfl) (by kernel_rfl) (by kernel_rfl) (fun _ _ _ h => h) (by kernel_rfl) (fun w hSw => by (obtain ⟨hS0, hS1, hS2⟩ := hSw); go_simp) hHeld ?_
    try simp only [List.setIfInBounds_toArray, List.set_cons_zero, List.set_cons_succ]
    refine held_take (i := 5) (d := 21) (v := (.int .i64 room)) rfl rfl (by kernel_rfl) (by kernel_rfl) (by kernel_rfl) (fun _ _ _ h => h) (by kernel_rfl) (fun w hSw => by (obtain ⟨hS0, hS1, hS2⟩ := hSw); go_simp) hHeld ?_
    try simp only [List.setIfInBounds_toArray, List.set_cons_zero, List.set_cons_succ]
    refine held_take (i := 6) (d := 22) (v := (.pointer (some ⟨p, 0, none⟩))) rfl rfl (by kernel_rfl) (by kernel_rfl) (by kernel_rfl) (fun _ _ _ h => h) (by kernel_rfl) (fun w hSw => by (obtain ⟨hS0, hS1, hS2⟩ := hSw); go_simp) hHeld ?_
    try simp only [List.setIfInBounds_toArray, List.set_cons_zero, List.set_cons_succ]
    refine wpAnyH_ready (rs := [7]) (by kernel_rfl) (by simp) ?_
    refine AllReadyH.cons rfl (fun K hK => ?_) AllReadyH.nil
    go_simp
    go_at_call 42
    refine HSI.out.mono ?_
    rintro e u2 ⟨rfl, hb2⟩
    have HS2 := Lib.hid (show u2.cell? ⟨b2, 0, none⟩ = some (.slice BA bn bc) ∧ u2.cell? ⟨b0, 0, none⟩ = some (.pointer (some ⟨p, 0, none⟩)) ∧ u2.cell? ⟨p, 1, none⟩ = some (.int .i64 room) from ⟨(hb2.cell (p := ⟨b2, 0, none⟩) HL.out.1).trans HS1.out.1, (hb2.cell (p := ⟨b0, 0, none⟩) HL.out.2.1).trans HS1.out.2.1, (hb2.cell (p := ⟨p, 1, none⟩) HL.out.2.2).trans HS1.out.2.2⟩)
    have HB2 := Lib.hid (show Below w1.heap.size w1 u2 from (Below.drew (Below.refl w1.heap.size w1)).trans hb2)
    clear hb2 HSI
    refine hK.out _ _ (by first | (with_reducible exact HS2.out) | (with_reducible exact HS1.out)) (fun hHeld => ?_)
    clear hK K
    refine held_take (i := 8) (d := 24) (v := (.int .i64 (room - (U : Int)))) rfl rfl (by kernel_rfl) (by kernel_rfl) (by kernel_rfl) (fun _ _ _ h => h) (by kernel_rfl) (fun w hSw => by (obtain ⟨hS0, hS1, hS2⟩ := hSw); go_simp) hHeld ?_
    try simp only [List.setIfInBounds_toArray, List.set_cons_zero, List.set_cons_succ]
    refine held_take (i := 9) (d := 25) (v := (.bool t)) rfl rfl (by kernel_rfl) (by kernel_rfl) (by kernel_rfl) (fun _ _ _ h => h) (by kernel_rfl) (fun w hSw => by (obtain ⟨hS0, hS1, hS2⟩ := hSw); go_simp) hHeld ?_
    try simp only [List.setIfInBounds_toArray, List.set_cons_zero, List.set_cons_succ]
    refine held_take (i := 10) (d := 15) (v := (.bool t)) rfl rfl (by kernel_rfl) (by kernel_rfl) (by kernel_rfl) (fun _ _ _ h => h) (by kernel_rfl) (fun w hSw => by (obtain ⟨hS0, hS1, hS2⟩ := hSw); go_simp) hHeld ?_
    try simp only [List.setIfInBounds_toArray, List.set_cons_zero, List.set_cons_succ]
    refine wpAnyH_done (by kernel_rfl) ?_ _
    skip
    
    have HTN := Lib.hid (show (t = true → room < (U : Int) + bn) ∧ (t = false → ¬ room < (U : Int) + bn) from ⟨fun e => by have h := HT.out; rw [e] at h; have := of_decide_eq_true h; omega, fun e => by have h := HT.out; rw [e] at h; have := of_decide_eq_false h; omega⟩)
    clear ht hwr HT HL
    have hown2 := HH1.out.below HB2.out
    have hb02 : Below w.heap.size w u2 := by
      have h1 := HB1.out
      have h2 : Below w1.heap.size w1 u2 := HB2.out
      exact h1.trans (h2.mono h1.size)
    have HB02 := Lib.hid hb02
    have HOW2 := Lib.hid hown2
    cases t with
    | true =>
      have e : doAppend s bs d = (7, d) := by
        unfold doAppend
        rw [if_neg (by rw [HT0.out]; decide), if_pos (by rw [HUU.out, HBL.out, HRM.out]; exact HTN.out.1 rfl)]
      have HE := Lib.hid e
      have HD := Lib.hid (show Does DI p S (7, d) w (.returned (.int .i64 ((7 : Nat) : Int))) u2 from Does.stay ⟨m, hs, hown2⟩ (Keeps.ofBelow hb02))
      clear e hown2 hb02 q0 q1
      go_wp2_with fail
      go_ret
      rw [HE.out]
      exact HD.out
    | false =>
    have hroom3 := HTN.out.2 rfl
    have q0 := (HK0.out.bel hb02).cell 0
    have q1 := (HK1.out.bel hb02).cell 0
    simp only [List.getElem?_toArray, List.getElem?_cons_zero] at q0 q1
    have c0 := hown2.cells.1
    have hlp := look_place hs s
    rw [HH.out.fs, HLK.out] at hlp
    have HLP := Lib.hid hlp
    have HR3 := Lib.hid hroom3
    clear hlp hroom3
    cases o with
    | some x =>
      obtain ⟨i, hres, hi, hnm⟩ : ∃ i, place d.fs s = some i ∧ hs[i]? = some x ∧ x.f.nm = s := by
        rcases HLP.out with ⟨h, _⟩ | ⟨i, y, h, h1, h2, h3⟩
        · cases h
        · injection h with h
          subst h
          exact ⟨i, h1, h2, h3⟩
      have e : doAppend s bs d = (0, { d with fs := d.fs.set i ⟨x.f.nm, x.f.sure, x.f.tail ++ bs⟩ }) := by
        unfold doAppend
        rw [if_neg (by rw [HT0.out]; decide), if_neg (by rw [HUU.out, HBL.out, HRM.out]; have := HR3.out; omega), hres]
        simp only
        rw [modify_set _ (fs_at HH.out hi)]
      have HE := Lib.hid e
      unfold pv
      go_upto_region 11 with fail
      have HOW := Lib.hid hown2
      have HI := Lib.hid hi
      have HBB := Lib.hid (HK2.out.bel hb02)
      have HRD := Lib.hid (HR.out.below hb02)
      have HNS2 := Lib.hid HN2.out
      have HU1 := Lib.hid (show Dsk.used d.fs ≤ 1099511627776 from by rw [HUU.out]; exact HUB.out)
      clear e hown2 q0 q1 c0 hres hi hnm
      have hx4 := (HOW.out.file x (List.mem_of_getElem? HI.out))
      have hx4d : PfIn u2.drew x := hx4.keep fun _ _ => rfl
      obtain ⟨xb, hxb⟩ : ∃ v, x.b = v := ⟨_, rfl⟩
      obtain ⟨n, hn⟩ : ∃ v, x.f.all.length = v := ⟨_, rfl⟩
      have hc4 := hx4d.cells.1
      have hz4 := hx4d.box.soft 0
      have hle4 := len_used (fs_at HOW.out HI.out)
      have hrw4 := hx4d.row
      have hself4 := hx4d.self
      have hxl4 := hx4d.box.lt
      have hS4 := (HOW.out.out x (List.mem_of_getElem? HI.out) x.b (.inl rfl)).2.2
      have hR4 : ∀ k, x.val.ownBlock = some k → S k := fun k hk => (HOW.out.out x (List.mem_of_getElem? HI.out) k (.inr hk)).2.2
      have hal4 := x.f.len_all
      have hfu2 := HU1.out
      unfold Fl.len at hal4
      rw [hn] at hal4
      have HNN := Lib.hid (show n ≤ 1099511627776 ∧ bn ≤ 1099511627776 from ⟨by omega, HBN.out⟩)
      have HBX := Lib.hid (show b2 ≠ xb from fun e => HNS2.out (by rw [e, ← hxb]; exact hS4))
      have hvl4 : x.val = .slice x.A n x.c := by unfold Pf.val; rw [hn]
      rw [hvl4] at hR4 hself4 hrw4
      have HB2R := Lib.hid (show (Value.slice x.A n x.c).ownBlock ≠ some b2 from fun e => HNS2.out (hR4 b2 e))
      have HIN := Lib.hid hx4d
      have HXL := Lib.hid hn
      rw [hn] at hrw4
      rw [hxb] at hc4 hz4 hxl4
      rw [hn] at hc4
      have HC0 := Lib.hid hc4
      have HZ0 := Lib.hid hz4
      have HXBL := Lib.hid hxl4
      have HRW := Lib.hid hrw4
      have HSELF := Lib.hid (show (Value.slice x.A n x.c).ownBlock ≠ some xb from by rw [← hxb]; exact hself4)
      have HRB := Lib.hid (show Rd u2.drew BA bn bc (cs bs) from HRD.out.drew)
      have q4 := HBB.out.cell 0
      simp only [List.getElem?_toArray, List.getElem?_cons_zero] at q4
      have HS5 := Lib.hid (show u2.drew.cell? ⟨b2, 0, none⟩ = some (.slice BA bn bc) from q4)
      have HTD := Lib.hid (fun (g : Fl) (u : World) (ht : Turned x g u2.drew u) (hg : g.nm = x.f.nm) => turn_does HOW.out HI.out (show Turned x g u2 u from Turned.drewN (q := 1) ht) hg)
      rw [hxb]
      have HXBE := Lib.hid hxb
      clear hx4 hx4d hc4 hz4 hle4 hrw4 hself4 hxl4 hS4 hR4 hal4 hfu2 q4 hvl4 hxb hn
      refine wp_region_held_drew (S := (fun w' => w'.cell? ⟨b2, 0, none⟩ = some (.slice BA bn bc))) (by kernel_rfl) (by first | (with_reducible exact HS7.out) | (with_reducible exact HS6.out) | (with_reducible exact HS5.out)) (fun hHeld => ?_)
      refine held_take (i := 0) (d := 46) (v := (.pointer (some ⟨xb, 0, none⟩))) rfl rfl (by kernel_rfl) (by kernel_rfl) (by kernel_rfl) (fun _ _ _ h => h) (by kernel_rfl) (fun w hSw => by (obtain hS := hSw); go_simp) hHeld ?_
      try simp only [List.setIfInBounds_toArray, List.set_cons_zero, List.set_cons_succ]
      refine held_take (i := 1) (d := 47) (v := (.pointer (some ⟨xb, 0, none⟩))) rfl rfl (by kernel_rfl) (by kernel_rfl) (by kernel_rfl) (fun _ _ _ h => h) (by kernel_rfl) (fun w hSw => by (obtain hS := hSw); go_simp) hHeld ?_
      try simp only [List.setIfInBounds_toArray, List.set_cons_zero, List.set_cons_succ]
      refine held_take (i := 2) (d := 48) (v := (.pointer (some ⟨xb, 0, none⟩))) rfl rfl (by kernel_rfl) (by kernel_rfl) (by kernel_rfl) (fun _ _ _ h => h) (by kernel_rfl) (fun w hSw => by (obtain hS := hSw); go_simp) hHeld ?_
      try simp only [List.setIfInBounds_toArray, List.set_cons_zero, List.set_cons_succ]
      refine held_take (i := 3) (d := 49) (v := (.pointer (some ⟨xb, 0, none⟩))) rfl rfl (by kernel_rfl) (by kernel_rfl) (by kernel_rfl) (fun _ _ _ h => h) (by kernel_rfl) (fun w hSw => by (obtain hS := hSw); go_simp) hHeld ?_
      try simp only [List.setIfInBounds_toArray, List.set_cons_zero, List.set_cons_succ]
      refine held_take (i := 5) (d := 51) (v := (.slice BA bn bc)) rfl rfl (by kernel_rfl) (by kernel_rfl) (by kernel_rfl) (fun _ _ _ h => h) (by kernel_rfl) (fun w hSw => by (obtain hS := hSw); go_simp) hHeld ?_
      try simp only [List.setIfInBounds_toArray, List.set_cons_zero, List.set_cons_succ]
      refine wpAnyH_ready (rs := [4]) (by kernel_rfl) (by simp) ?_
      refine AllReadyH.cons rfl (fun K hK => ?_) AllReadyH.nil
      have c0 := HC0.out
      go_simp
      clear c0
      refine hK.out _ _ (by first | (with_reducible exact HS7.out) | (with_reducible exact HS6.out) | (with_reducible exact HS5.out)) (fun hHeld => ?_)
      clear hK K
      refine wpAnyH_ready (rs := [6]) (by kernel_rfl) (by simp) ?_
      refine AllReadyH.cons rfl (fun K hK => ?_) AllReadyH.nil
      refine step_append_at rfl (.tmp 50) (.tmp 51) rfl (by rfl) HRW.out (by rfl) HRB.out (cs_one _) (by have := HNN.out; unfold maxLen; omega) (by have := HNN.out; omega) ?_
      intro V' c' u6 hown hgr hloc
      have HS6 := Lib.hid (hgr.cell HS5.out (fun e => HB2R.out e.symm))
      have ht7 := grow_turned HIN.out HXL.out hown hgr hloc
      rw [HXBE.out] at ht7
      have HT := Lib.hid ht7
      clear ht7
      have hc6 := hgr.cell HC0.out (fun e => HSELF.out e.symm)
      have hz6 := (World.frozen?_of_block (a := ⟨xb, 0, none⟩) (hgr.block xb HXBL.out (fun e => HSELF.out e.symm))).trans HZ0.out
      clear hown hgr hloc
      show K (Act.put _ (some 52) _) _
      try simp only [Act.put]
      refine hK.out _ _ (by first | (with_reducible exact HS7.out) | (with_reducible exact HS6.out) | (with_reducible exact HS5.out)) (fun hHeld => ?_)
      clear hK K
      refine held_take (i := 7) (d := 53) (v := (.pointer (some ⟨xb, 0, none⟩))) rfl rfl (by kernel_rfl) (by kernel_rfl) (by kernel_rfl) (fun _ _ _ h => h) (by kernel_rfl) (fun w hSw => by (obtain hS := hSw); go_simp) hHeld ?_
      try simp only [List.setIfInBounds_toArray]
      refine held_take (i := 8) (d := 54) (v := (.pointer (some ⟨xb, 0, none⟩))) rfl rfl (by kernel_rfl) (by kernel_rfl) (by kernel_rfl) (fun _ _ _ h => h) (by kernel_rfl) (fun w hSw => by (obtain hS := hSw); go_simp) hHeld ?_
      try simp only [List.setIfInBounds_toArray]
      refine wpAnyH_ready (rs := [9]) (by kernel_rfl) (by simp) ?_
      refine AllReadyH.cons rfl (fun K hK => ?_) AllReadyH.nil
      go_simp
      have hs7 := (Below.heap_setCell u6 ⟨xb, 0, none⟩ (.slice V' (n + bn) c') b2 HBX.out)
      have HS7 := Lib.hid ((World.cell?_of_block (a := ⟨b2, 0, none⟩) hs7).trans HS6.out)
      obtain ⟨u7, hu7⟩ : ∃ v, u6.setCell ⟨xb, 0, none⟩ (.slice V' (n + bn) c') = v := ⟨_, rfl⟩
      rw [hu7] at HS7 HT ⊢
      clear hs7 hu7 hc6 hz6
      refine hK.out _ _ (by first | (with_reducible exact HS7.out) | (with_reducible exact HS6.out) | (with_reducible exact HS5.out)) (fun hHeld => ?_)
      clear hK K
      refine wpAnyH_done (by kernel_rfl) ?_ _
      skip
      go_wp2_with fail
      go_ret
      rw [HE.out]
      exact (HTD.out _ _ HT.out rfl).step (Keeps.ofBelow HB02.out) (Grew.refl S w)
    | none =>
      have hres : place d.fs s = none := by
        rcases HLP.out with ⟨_, h⟩ | ⟨i, x, h, _⟩
        · exact h
        · cases h
      have hlen := hown2.map.len (t := 46) (e := 59) Tryd.underlying46 3
      rw [size_ent] at hlen
      have hl16 := HF.out.length
      rw [← HH.out.length] at hl16
      obtain ⟨L, hL⟩ : ∃ v, hs.length = v := ⟨_, rfl⟩
      rw [hL] at hlen hl16
      have HLE := Lib.hid hL
      clear hL
      by_cases h16 : L = 16
      · have e : doAppend s bs d = (12, d) := by
          unfold doAppend
          rw [if_neg (by rw [HT0.out]; decide), if_neg (by rw [HUU.out, HBL.out, HRM.out]; have := HR3.out; omega), hres]
          simp only
          rw [if_pos (by rw [← HH.out.length, HLE.out]; omega)]
        have b3 : ((L : Int) == 16) = true := by rw [h16]; rfl
        have HE := Lib.hid e
        have HD := Lib.hid (show Does DI p S (12, d) w (.returned (.int .i64 ((12 : Nat) : Int))) u2 from Does.stay ⟨m, hs, hown2⟩ (Keeps.ofBelow hb02))
        clear e hown2 hb02 q0 q1 h16 hres
        unfold pv
        go_wp2_with fail
        go_ret
        rw [HE.out]
        exact HD.out
      have b3 : ((L : Int) == 16) = false := by
        cases e : ((L : Int) == 16)
        · rfl
        · simp at e; omega
      have HL15 := Lib.hid (show L < 16 by omega)
      unfold pv
      go_upto_region 10 with fail
      obtain ⟨u3, hu3⟩ : ∃ v, u2.alloc (.cells #[.slice none 0 0, .int .i64 0] 61) = v := ⟨_, rfl⟩
      have hz3 : u3.heap.size = u2.heap.size + 1 := by rw [← hu3]; simp
      have hbk3 := Blk.new u2 61 #[.slice none 0 0, .int .i64 0]
      have hbe3 := bel_alloc (Below.refl u2.heap.size u2) (.cells #[.slice none 0 0, .int .i64 0] 61)
      rw [hu3] at hbk3 hbe3
      obtain ⟨x, hx⟩ : ∃ v : Pf, v = ⟨⟨s, [], []⟩, u2.heap.size, none, 0⟩ := ⟨_, rfl⟩
      have hxb0 : u2.heap.size = x.b := by rw [hx]
      have hxn : x.f.nm = s := by rw [hx]
      have hxf : x.f = ⟨s, [], []⟩ := by rw [hx]
      have hxh : ∀ k, x.has k → k = u2.heap.size := by
        rintro k (hk | hk)
        · rw [hk, hx]
        · rw [hx] at hk
          cases hk
      have hin3 : PfIn u3 x := by
        rw [hx]
        exact ⟨hbk3, World.ownsRow_nil _ _ _ _, fun e => by cases e⟩
      have hown3 : Own u3 (Plus S u2 u3) p m d hs := (hown2.below hbe3).more (fun k hk => .inl hk) (plus_lt hown2.lt (by omega))
      have hnm3 : ∀ f ∈ d.fs, f.nm ≠ s := fun f hf e => by
        have := place_none hres f hf
        rw [e, eqn_self] at this
        cases this
      have hdrop : drop s d.fs = d.fs := by
        unfold drop
        exact List.filter_eq_self.2 fun f hf => by rw [place_none hres f hf]; rfl
      have hput := dput_any p m (Plus S u2 u3) d hs x s u3 hown3 (by rw [HLE.out]; omega) (by have h := HT0.out; unfold isName at h; simp only [Bool.and_eq_true, decide_eq_true_eq] at h; omega) hxn hin3
        (fun k hk => by rw [hxh k hk]; have h1 := hown2.lt p hown2.sp; have h2 := hown2.lt m hown2.sm; exact ⟨by omega, by omega, .inr ⟨by omega, by omega⟩⟩)
        (fun y hy _ k hyk hk => by have h1 := (hown2.file y hy).lt hyk; have h2 := hxh k hk; omega)
      rw [hdrop, hxf, dropP_none (show look hs s = none from HLK.out)] at hput
      have HPUT := Lib.hid hput
      have HU3 := Lib.hid hu3
      have HXF := Lib.hid hxf
      have HRES := Lib.hid hres
      have HNM := Lib.hid hnm3
      have q03 := (hbe3.cell (p := ⟨b0, 0, none⟩) (HK0.out.bel hb02).lt).trans q0
      have q13 := (hbe3.cell (p := ⟨b1, 0, none⟩) (HK1.out.bel hb02).lt).trans q1
      have hB3 : Below w.heap.size w u3 := hb02.trans (hbe3.mono hb02.size)
      have HB3 := Lib.hid hB3
      have HMS := Lib.hid hown2.sm
      have HOLT := Lib.hid hown2.lt
      have HZ3 := Lib.hid hz3
      have HLM := Lib.hid (show Plus S u2 u3 m from .inl hown2.sm)
      have HBB3 := Lib.hid (HK2.out.bel hB3)
      have hzz := hb02.size
      have HNP := Lib.hid (show ¬ Plus S u2 u3 b2 from fun h => h.elim HN2.out fun h => by have := HK2.out.lt; omega)
      have hb23 : b2 < u3.heap.size := HBB3.out.lt
      have hbm : b2 ≠ m := fun e => HN2.out (by rw [e]; exact hown2.sm)
      have HB23 := Lib.hid hb23
      have HBM := Lib.hid hbm
      rw [hu3, hxb0]
      clear hput hu3 hxf hres hnm3 hdrop hown3 hin3 hxh hxn hx hbk3 hbe3 hz3 hown2 hb02 hB3 q0 q1 hlen c0 hl16 h16 hzz b3 hb23 hbm
      go_upto_region 11 with (go_at_call 43; with_reducible refine HPUT.out.mono ?_; rintro e u4 ⟨rfl, ho4, hk4⟩)
      have HOW := Lib.hid ho4
      obtain ⟨i, hi⟩ : ∃ i, (putP x hs)[i]? = some x := List.getElem?_of_mem (mem_putP.2 (.inl rfl))
      have HI := Lib.hid hi
      have HBB := Lib.hid (show Blk u4 b2 32 #[.slice BA bn bc] from (hk4.block b2 HB23.out HBM.out).trans HBB3.out)
      have hkw : Keeps S w u4 := by
        have h3 := HB3.out
        refine ⟨hk4.os.trans h3.os, hk4.tape.trans h3.tape, hk4.output.trans h3.output, Nat.le_trans h3.size hk4.size, fun k hk hS => ?_⟩
        exact (hk4.block k (Nat.lt_of_lt_of_le hk h3.size) fun e => hS (by rw [e]; exact HMS.out)).trans (h3.block k hk)
      have hgw : Grew S (Plus S u2 u3) w := fun k hk => hk.imp id fun h => by have := HB02.out.size; omega
      have HKW := Lib.hid hkw
      have HGW := Lib.hid hgw
      have HRD := Lib.hid ((frame_rd BA bn bc (cs bs)).go ⟨HR.out, HOU.out⟩ hkw (Grew.refl S w)).1
      have HNS2 := Lib.hid HNP.out
      have HU1 := Lib.hid (show Dsk.used ({ d with fs := put ⟨s, [], []⟩ d.fs } : Dk).fs ≤ 1099511627776 from by show Dsk.used (put ⟨s, [], []⟩ d.fs) ≤ _; rw [used_put, HUU.out]; have := HUB.out; show 0 + U ≤ _; omega)
      have e : doAppend s bs d = (0, { d with fs := (put ⟨s, [], []⟩ d.fs).set i ⟨x.f.nm, x.f.sure, x.f.tail ++ bs⟩ }) := by
        unfold doAppend
        rw [if_neg (by rw [HT0.out]; decide), if_neg (by rw [HUU.out, HBL.out, HRM.out]; have := HR3.out; omega), HRES.out]
        simp only
        rw [if_neg (by rw [← HH.out.length, HLE.out]; have h := HL15.out; omega)]
        have hat := fs_at ho4 hi
        rw [HXF.out] at hat ⊢
        rw [put_set (f := ⟨s, [], []⟩) (g := ⟨s, [], [] ++ bs⟩) HNM.out rfl hat rfl]
        rfl
      have HE := Lib.hid e
      clear ho4 hk4 hi hkw hgw e q03 q13
      have hx4 := (HOW.out.file x (List.mem_of_getElem? HI.out))
      have hx4d : PfIn u4.drew x := hx4.keep fun _ _ => rfl
      obtain ⟨xb, hxb⟩ : ∃ v, x.b = v := ⟨_, rfl⟩
      obtain ⟨n, hn⟩ : ∃ v, x.f.all.length = v := ⟨_, rfl⟩
      have hc4 := hx4d.cells.1
      have hz4 := hx4d.box.soft 0
      have hle4 := len_used (fs_at HOW.out HI.out)
      have hrw4 := hx4d.row
      have hself4 := hx4d.self
      have hxl4 := hx4d.box.lt
      have hS4 := (HOW.out.out x (List.mem_of_getElem? HI.out) x.b (.inl rfl)).2.2
      have hR4 : ∀ k, x.val.ownBlock = some k → Plus S u2 u3 k := fun k hk => (HOW.out.out x (List.mem_of_getElem? HI.out) k (.inr hk)).2.2
      have hal4 := x.f.len_all
      have hfu4 := HU1.out
      unfold Fl.len at hal4
      rw [hn] at hal4
      have HNN := Lib.hid (show n ≤ 1099511627776 ∧ bn ≤ 1099511627776 from ⟨by omega, HBN.out⟩)
      have HBX := Lib.hid (show b2 ≠ xb from fun e => HNS2.out (by rw [e, ← hxb]; exact hS4))
      have hvl4 : x.val = .slice x.A n x.c := by unfold Pf.val; rw [hn]
      rw [hvl4] at hR4 hself4 hrw4
      have HB2R := Lib.hid (show (Value.slice x.A n x.c).ownBlock ≠ some b2 from fun e => HNS2.out (hR4 b2 e))
      have HIN := Lib.hid hx4d
      have HXL := Lib.hid hn
      rw [hn] at hrw4
      rw [hxb] at hc4 hz4 hxl4
      rw [hn] at hc4
      have HC0 := Lib.hid hc4
      have HZ0 := Lib.hid hz4
      have HXBL := Lib.hid hxl4
      have HRW := Lib.hid hrw4
      have HSELF := Lib.hid (show (Value.slice x.A n x.c).ownBlock ≠ some xb from by rw [← hxb]; exact hself4)
      have HRB := Lib.hid (show Rd u4.drew BA bn bc (cs bs) from HRD.out.drew)
      have q4 := HBB.out.cell 0
      simp only [List.getElem?_toArray, List.getElem?_cons_zero] at q4
      have HS5 := Lib.hid (show u4.drew.cell? ⟨b2, 0, none⟩ = some (.slice BA bn bc) from q4)
      have HTD := Lib.hid (fun (g : Fl) (u : World) (ht : Turned x g u4.drew u) (hg : g.nm = x.f.nm) => turn_does HOW.out HI.out (show Turned x g u4 u from Turned.drewN (q := 1) ht) hg)
      rw [hxb]
      have HXBE := Lib.hid hxb
      clear hx4 hx4d hc4 hz4 hle4 hrw4 hself4 hxl4 hS4 hR4 hal4 hfu4 q4 hvl4 hxb hn
      refine wp_region_held_drew (S := (fun w' => w'.cell? ⟨b2, 0, none⟩ = some (.slice BA bn bc))) (by kernel_rfl) (by first | (with_reducible exact HS7.out) | (with_reducible exact HS6.out) | (with_reducible exact HS5.out)) (fun hHeld => ?_)
      refine held_take (i := 0) (d := 46) (v := (.pointer (some ⟨xb, 0, none⟩))) rfl rfl (by kernel_rfl) (by kernel_rfl) (by kernel_rfl) (fun _ _ _ h => h) (by kernel_rfl) (fun w hSw => by (obtain hS := hSw); go_simp) hHeld ?_
      try simp only [List.setIfInBounds_toArray, List.set_cons_zero, List.set_cons_succ]
      refine held_take (i := 1) (d := 47) (v := (.pointer (some ⟨xb, 0, none⟩))) rfl rfl (by kernel_rfl) (by kernel_rfl) (by kernel_rfl) (fun _ _ _ h => h) (by kernel_rfl) (fun w hSw => by (obtain hS := hSw); go_simp) hHeld ?_
      try simp only [List.setIfInBounds_toArray, List.set_cons_zero, List.set_cons_succ]
      refine held_take (i := 2) (d := 48) (v := (.pointer (some ⟨xb, 0, none⟩))) rfl rfl (by kernel_rfl) (by kernel_rfl) (by kernel_rfl) (fun _ _ _ h => h) (by kernel_rfl) (fun w hSw => by (obtain hS := hSw); go_simp) hHeld ?_
      try simp only [List.setIfInBounds_toArray, List.set_cons_zero, List.set_cons_succ]
      refine held_take (i := 3) (d := 49) (v := (.pointer (some ⟨xb, 0, none⟩))) rfl rfl (by kernel_rfl) (by kernel_rfl) (by kernel_rfl) (fun _ _ _ h => h) (by kernel_rfl) (fun w hSw => by (obtain hS := hSw); go_simp) hHeld ?_
      try simp only [List.setIfInBounds_toArray, List.set_cons_zero, List.set_cons_succ]
      refine held_take (i := 5) (d := 51) (v := (.slice BA bn bc)) rfl rfl (by kernel_rfl) (by kernel_rfl) (by kernel_rfl) (fun _ _ _ h => h) (by kernel_rfl) (fun w hSw => by (obtain hS := hSw); go_simp) hHeld ?_
      try simp only [List.setIfInBounds_toArray, List.set_cons_zero, List.set_cons_succ]
      refine wpAnyH_ready (rs := [4]) (by kernel_rfl) (by simp) ?_
      refine AllReadyH.cons rfl (fun K hK => ?_) AllReadyH.nil
      have c0 := HC0.out
      go_simp
      clear c0
      refine hK.out _ _ (by first | (with_reducible exact HS7.out) | (with_reducible exact HS6.out) | (with_reducible exact HS5.out)) (fun hHeld => ?_)
      clear hK K
      refine wpAnyH_ready (rs := [6]) (by kernel_rfl) (by simp) ?_
      refine AllReadyH.cons rfl (fun K hK => ?_) AllReadyH.nil
      refine step_append_at rfl (.tmp 50) (.tmp 51) rfl (by rfl) HRW.out (by rfl) HRB.out (cs_one _) (by have := HNN.out; unfold maxLen; omega) (by have := HNN.out; omega) ?_
      intro V' c' u6 hown hgr hloc
      have HS6 := Lib.hid (hgr.cell HS5.out (fun e => HB2R.out e.symm))
      have ht7 := grow_turned HIN.out HXL.out hown hgr hloc
      rw [HXBE.out] at ht7
      have HT := Lib.hid ht7
      clear ht7
      have hc6 := hgr.cell HC0.out (fun e => HSELF.out e.symm)
      have hz6 := (World.frozen?_of_block (a := ⟨xb, 0, none⟩) (hgr.block xb HXBL.out (fun e => HSELF.out e.symm))).trans HZ0.out
      clear hown hgr hloc
      show K (Act.put _ (some 52) _) _
      try simp only [Act.put]
      refine hK.out _ _ (by first | (with_reducible exact HS7.out) | (with_reducible exact HS6.out) | (with_reducible exact HS5.out)) (fun hHeld => ?_)
      clear hK K
      refine held_take (i := 7) (d := 53) (v := (.pointer (some ⟨xb, 0, none⟩))) rfl rfl (by kernel_rfl) (by kernel_rfl) (by kernel_rfl) (fun _ _ _ h => h) (by kernel_rfl) (fun w hSw => by (obtain hS := hSw); go_simp) hHeld ?_
      try simp only [List.setIfInBounds_toArray]
      refine held_take (i := 8) (d := 54) (v := (.pointer (some ⟨xb, 0, none⟩))) rfl rfl (by kernel_rfl) (by kernel_rfl) (by kernel_rfl) (fun _ _ _ h => h) (by kernel_rfl) (fun w hSw => by (obtain hS := hSw); go_simp) hHeld ?_
      try simp only [List.setIfInBounds_toArray]
      refine wpAnyH_ready (rs := [9]) (by kernel_rfl) (by simp) ?_
      refine AllReadyH.cons rfl (fun K hK => ?_) AllReadyH.nil
      go_simp
      have hs7 := (Below.heap_setCell u6 ⟨xb, 0, none⟩ (.slice V' (n + bn) c') b2 HBX.out)
      have HS7 := Lib.hid ((World.cell?_of_block (a := ⟨b2, 0, none⟩) hs7).trans HS6.out)
      obtain ⟨u7, hu7⟩ : ∃ v, u6.setCell ⟨xb, 0, none⟩ (.slice V' (n + bn) c') = v := ⟨_, rfl⟩
      rw [hu7] at HS7 HT ⊢
      clear hs7 hu7 hc6 hz6
      refine hK.out _ _ (by first | (with_reducible exact HS7.out) | (with_reducible exact HS6.out) | (with_reducible exact HS5.out)) (fun hHeld => ?_)
      clear hK K
      refine wpAnyH_done (by kernel_rfl) ?_ _
      skip
      go_wp2_with fail
      go_ret
      rw [HE.out]
      exact (HTD.out _ _ HT.out rfl).step HKW.out HGW.out
end Go.Proofs.YthkbmmebfkaphaaDoor.Dsk
