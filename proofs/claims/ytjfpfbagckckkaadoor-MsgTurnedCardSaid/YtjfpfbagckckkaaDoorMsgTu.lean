/-
  Texts of earlier layers, as one.
-/
import Derived.Test.YtjfpfbagckckkaaDoorMsgOw
import Derived.Test.YtjfpfbagckckkaaDoorMsgFO
import Derived.Test.YtjfpfbagckckkaaDoorMsgAw
import Derived.Test.YtjfpfbagckckkaaDoorMsgBase
import Derived.Laws.BitsAllLaws
import Derived.Deep.Cut
/- A frame with bits turned behind its sum, or of its sum, isn't opened: the sum tells; plain mathematics. And a place below n, for greater n. -/
namespace Go.Proofs.YtjfpfbagckckkaaDoor.Mg
open Go.RowKit Mem Cod

theorem low_snoc : ∀ (j L : Nat), Crc.low (j + 1) L = Crc.low j L ++ [L / 256 ^ j % 256]
  | 0, L => by simp [Crc.low]
  | j + 1, L => by
    show L % 256 :: Crc.low (j + 1) (L / 256) = (L % 256 :: Crc.low j (L / 256)) ++ [L / 256 ^ (j + 1) % 256]
    rw [low_snoc j, List.cons_append, Nat.div_div_eq_div_mul, Nat.pow_succ, Nat.mul_comm 256]
/-- What is turned: j bytes of L from place I on. -/
def trn (n I j L : Nat) : List Nat := List.replicate I 0 ++ Crc.low j L ++ List.replicate (n - I - j) 0
theorem trn_length {n I j L : Nat} (h : I + j ≤ n) : (trn n I j L).length = n := by
  simp only [trn, List.length_append, List.length_replicate, Crc.low_length]; omega
theorem trn_set {n I j L : Nat} (h : I + j < n) : (trn n I j L).set (I + j) (L / 256 ^ j % 256) = trn n I (j + 1) L := by
  unfold trn
  have h2 : (List.replicate I 0 ++ Crc.low j L).length = I + j := by simp [Crc.low_length]
  rw [List.set_append_right _ _ (by omega), h2, Nat.sub_self, show n - I - j = (n - I - (j + 1)) + 1 by omega, List.replicate_succ, List.set_cons_zero, low_snoc]
  simp
theorem trn_at {n I j L : Nat} (h : I + j < n) : (trn n I j L)[I + j]? = some 0 := by
  unfold trn
  have h2 : (List.replicate I 0 ++ Crc.low j L).length = I + j := by simp [Crc.low_length]
  rw [List.getElem?_append_right (by omega), h2, Nat.sub_self, show n - I - j = (n - I - (j + 1)) + 1 by omega, List.replicate_succ]
  rfl
theorem trn_none (n I L : Nat) (h : I ≤ n) : trn n I 0 L = List.replicate n 0 := by
  unfold trn
  rw [show Crc.low 0 L = [] by rfl, List.append_nil, List.replicate_append_replicate]
  congr 1; omega
theorem mix_zeros : ∀ (b : List Nat), Crc.mix b (List.replicate b.length 0) = b
  | [] => rfl
  | x :: b => by
    show (x ^^^ 0) :: Crc.mix b (List.replicate b.length 0) = _
    rw [mix_zeros b, Nat.xor_zero]
theorem mix_set : ∀ (b e : List Nat) (i x y : Nat), b[i]? = some x → (Crc.mix b e).set i (x ^^^ y) = Crc.mix b (e.set i y)
  | [], _, _, _, _, h => by simp at h
  | u :: b, [], i, x, y, _ => by simp [Crc.mix]
  | u :: b, v :: e, 0, x, y, h => by
    obtain rfl : u = x := by simpa using h
    rfl
  | u :: b, v :: e, i + 1, x, y, h => by
    show (u ^^^ v) :: (Crc.mix b e).set i (x ^^^ y) = (u ^^^ v) :: Crc.mix b (e.set i y)
    rw [mix_set b e i x y (by simpa using h)]
theorem trn_lt {n I j L : Nat} : ∀ b ∈ trn n I j L, b < 256 := by
  intro b hb
  simp only [trn, List.mem_append, List.mem_replicate] at hb
  rcases hb with (⟨_, rfl⟩ | hb) | ⟨_, rfl⟩
  · decide
  · exact Crc.low_lt _ _ b hb
  · decide
theorem mix_at {a b : List Nat} {k x y : Nat} (hx : a[k]? = some x) (hy : b[k]? = some y) : (Crc.mix a b)[k]? = some (x ^^^ y) := by
  simp [Crc.mix, List.getElem?_zipWith, hx, hy]
theorem xor8 {x y : Nat} (hx : x < 256) (hy : y < 256) : x ^^^ y < 256 := @Nat.xor_lt_two_pow _ _ 8 hx hy
theorem mix_lt : ∀ {a b : List Nat}, (∀ x ∈ a, x < 256) → (∀ x ∈ b, x < 256) → ∀ x ∈ Crc.mix a b, x < 256
  | [], _, _, _ => by simp [Crc.mix]
  | _ :: _, [], _, _ => by simp [Crc.mix]
  | x :: a, y :: b, ha, hb => by
    intro z hz
    rcases List.mem_cons.1 hz with rfl | hz
    · exact xor8 (ha x (by simp)) (hb y (by simp))
    · exact mix_lt (fun u hu => ha u (by simp [hu])) (fun u hu => hb u (by simp [hu])) z hz
theorem mix_length (a b : List Nat) (h : a.length = b.length) : (Crc.mix a b).length = a.length := by simp [Crc.mix, h]
theorem mix_append (a b c d : List Nat) (h : a.length = c.length) : Crc.mix (a ++ b) (c ++ d) = Crc.mix a c ++ Crc.mix b d := by
  unfold Crc.mix
  exact List.zipWith_append h
theorem xor_stay {x y : Nat} (h : x ^^^ y = x) : y = 0 := by
  have h2 : x ^^^ (x ^^^ y) = x ^^^ x := by rw [h]
  rwa [← Nat.xor_assoc, Nat.xor_self, Nat.zero_xor] at h2
/-- What is turned: nothing ahead, four bytes, nothing behind. -/
theorem run_turn4 (i m t : Nat) (ht : t < 4294967296) (h0 : t ≠ 0) : Crc.run 0 (List.replicate i 0 ++ Crc.low 4 t ++ List.replicate m 0) ≠ 0 := by
  rw [Crc.run_append, Crc.run_append, Crc.run_zeros, Crc.run_zeros, Crc.run_low 4 _ _ (by omega), Crc.sts_zero, Nat.zero_xor, ← Crc.sts_add]
  exact Crc.sts_ne _ ht h0
/-- Bits of the sum. -/
theorem turned_sum (p : List Nat) (hp : ∀ b ∈ p, b < 256) (t : Nat) (ht : t < 4294967296) (h0 : t ≠ 0) : openX 2 (Crc.mix (frame 2 p) (trn (5 + p.length) 1 4 t)) = (Cmd.zeroIt, 5) := by
  have hs := Crc.sum_lt p hp
  have e : Crc.mix (frame 2 p) (trn (5 + p.length) 1 4 t) = 2 :: (Crc.mix (sb (Crc.sum p)) (Crc.low 4 t) ++ p) := by
    unfold frame trn
    rw [show 5 + p.length - 1 - 4 = p.length by omega, show List.replicate 1 0 = [0] by rfl, List.append_assoc, List.singleton_append]
    show (2 ^^^ 0) :: Crc.mix (sb (Crc.sum p) ++ p) (Crc.low 4 t ++ List.replicate p.length 0) = _
    rw [mix_append _ _ _ _ (by rw [Crc.low_length]; rfl), mix_zeros]
    rfl
  rw [e]
  refine open_sum 2 _ (by rw [mix_length _ _ (by rw [Crc.low_length]; rfl)]; rfl) ?_
  intro h
  have hq : Crc.mix (sb (Crc.sum p)) (Crc.low 4 t) = sb (Crc.sum p) := by
    have e4 : Crc.mix (sb (Crc.sum p)) (Crc.low 4 t) = [Crc.sum p / 16777216 ^^^ t % 256, Crc.sum p / 65536 % 256 ^^^ t / 256 % 256, Crc.sum p / 256 % 256 ^^^ t / 256 / 256 % 256, Crc.sum p % 256 ^^^ t / 256 / 256 / 256 % 256] := rfl
    rw [e4] at h ⊢
    have b1 := xor8 (x := Crc.sum p / 16777216) (y := t % 256) (by omega) (by omega)
    have b2 := xor8 (x := Crc.sum p / 65536 % 256) (y := t / 256 % 256) (by omega) (by omega)
    have b3 := xor8 (x := Crc.sum p / 256 % 256) (y := t / 256 / 256 % 256) (by omega) (by omega)
    have b4 := xor8 (x := Crc.sum p % 256) (y := t / 256 / 256 / 256 % 256) (by omega) (by omega)
    generalize Crc.sum p / 16777216 ^^^ t % 256 = q1 at *
    generalize Crc.sum p / 65536 % 256 ^^^ t / 256 % 256 = q2 at *
    generalize Crc.sum p / 256 % 256 ^^^ t / 256 / 256 % 256 = q3 at *
    generalize Crc.sum p % 256 ^^^ t / 256 / 256 / 256 % 256 = q4 at *
    simp only [word, List.foldl_cons, List.foldl_nil] at h
    simp only [sb, List.cons.injEq, and_true]
    omega
  have e4 : Crc.mix (sb (Crc.sum p)) (Crc.low 4 t) = [Crc.sum p / 16777216 ^^^ t % 256, Crc.sum p / 65536 % 256 ^^^ t / 256 % 256, Crc.sum p / 256 % 256 ^^^ t / 256 / 256 % 256, Crc.sum p % 256 ^^^ t / 256 / 256 / 256 % 256] := rfl
  rw [e4] at hq
  simp only [sb, List.cons.injEq, and_true] at hq
  obtain ⟨h1, h2, h3, h4⟩ := hq
  have := xor_stay h1
  have := xor_stay h2
  have := xor_stay h3
  have := xor_stay h4
  omega
/-- Bits behind it. -/
theorem turned_rest (p : List Nat) (hp : ∀ b ∈ p, b < 256) (j t : Nat) (hj : j + 4 ≤ p.length) (ht : t < 4294967296) (h0 : t ≠ 0) : openX 2 (Crc.mix (frame 2 p) (trn (5 + p.length) (5 + j) 4 t)) = (Cmd.zeroIt, 5) := by
  have hs := Crc.sum_lt p hp
  have e : Crc.mix (frame 2 p) (trn (5 + p.length) (5 + j) 4 t) = 2 :: (sb (Crc.sum p) ++ Crc.mix p (trn p.length j 4 t)) := by
    unfold frame trn
    rw [show 5 + p.length - (5 + j) - 4 = p.length - j - 4 by omega, show List.replicate (5 + j) 0 = [0, 0, 0, 0, 0] ++ List.replicate j 0 by rw [show ([0, 0, 0, 0, 0] : List Nat) = List.replicate 5 0 by rfl, List.replicate_append_replicate], List.append_assoc, List.append_assoc]
    show (2 ^^^ 0) :: (Crc.sum p / 16777216 ^^^ 0) :: (Crc.sum p / 65536 % 256 ^^^ 0) :: (Crc.sum p / 256 % 256 ^^^ 0) :: (Crc.sum p % 256 ^^^ 0) :: Crc.mix p (List.replicate j 0 ++ (Crc.low 4 t ++ List.replicate (p.length - j - 4) 0)) = _
    simp only [Nat.xor_zero, ← List.append_assoc]
    rfl
  rw [e]
  refine open_sum 2 _ rfl ?_
  rw [word_sb hs]
  exact (Crc.sum_turn p (trn p.length j 4 t) (trn_length (n := p.length) (I := j) (L := t) hj).symm (run_turn4 j _ t ht h0)).symm
theorem pick_far (k n : Int) (w : World) (hn1 : 1 ≤ n) (hn2 : n ≤ 4294967296) :
    Calls Tryd.prog 16 #[.int .i64 k, .int .i64 n] w fun e w' => e = .returned (.int .i64 (Cr.pick k n)) ∧ w = w' := by
  have h1 := Int.tmod_lt_of_pos k (show 0 < n by omega)
  have h2 := Int.lt_tmod_of_pos k (show 0 < n by omega)
  have hn0 : ¬ n < 1 := by omega
  by_cases h : k.tmod n < 0
  · have hp : Cr.pick k n = k.tmod n + n := by unfold Cr.pick; rw [if_neg hn0, if_pos h]
    have HP := Lib.hid hp
    clear hp
    go_enter Tryd.func16, Tryd.ntmps16
    go_wp2
    go_ret
    exact ⟨Cr.ret_int (by rw [HP.out]), rfl⟩
  · have hp : Cr.pick k n = k.tmod n := by unfold Cr.pick; rw [if_neg hn0, if_neg h]
    have HP := Lib.hid hp
    clear hp
    go_enter Tryd.func16, Tryd.ntmps16
    go_wp2
    go_ret
    exact ⟨Cr.ret_int (by rw [HP.out]), rfl⟩
theorem own_addr {w : World} {base : Nat} {e : TypeId} {V : Option Addr} {n c : Nat} {xs : List Value} (h : w.ownsRow base e 1 (.slice V n c) n xs) (hn : 0 < n) : ∃ g, V = some ⟨g, 0, none⟩ ∧ base ≤ g := by
  rcases h.2 with ⟨e1, e2⟩ | ⟨g, cap, cur, e1, hb, _⟩
  · cases e1; omega
  · cases e1
    exact ⟨g, rfl, hb⟩
theorem forms_two (l : List It) : 2 * l.length ≤ (forms l).length := by
  induction l with
  | nil => simp [forms]
  | cons x l ih =>
    have := length_form_pos x
    simp only [forms, List.length_append, List.length_cons]
    omega
/-- A right message's form has five bytes and more. -/
theorem form_five {m : Mg} (h : mright m = true) : 5 ≤ (form (mgIt m)).length := by
  have hk : 2 ≤ (mparts m (Att.attIt m.at_)).length := by
    obtain ⟨hk, _⟩ := mright_parts h
    unfold mparts
    by_cases h9 : m.kd = 9
    · simp [h9]
      omega
    · have hi : hId m = true := by simp [hId]; omega
      simp [hi]
  have e : form (mgIt m) = 2 :: (Num.put (mparts m (Att.attIt m.at_)).length ++ forms (mparts m (Att.attIt m.at_))) := form2 rfl
  rw [e]
  have := forms_two (mparts m (Att.attIt m.at_))
  simp only [List.length_cons, List.length_append]
  omega
end Go.Proofs.YtjfpfbagckckkaaDoor.Mg
/- What has one to 32 bits in a row turned behind its sum, or bits of its sum, isn't taken. -/
namespace Go.Proofs.YtjfpfbagckckkaaDoor.Mg
open Go.RowKit Mem Ids Att Rk Cod

def TurnRel (V0 : World) (g N c K t : Nat) (bs : List Nat) (tv iv : Value) (wr : World) : Prop :=
  ∃ i : Nat, i ≤ 4 ∧ iv = .int .i64 (i : Int) ∧ tv = .int .u32 ((t / 256 ^ i : Nat) : Int) ∧
    wr.ownsRow V0.heap.size 5 1 (.slice (some ⟨g, 0, none⟩) N c) N (cs (Crc.mix bs (trn N K i t))) ∧ Below V0.heap.size V0 wr
set_option maxRecDepth 100000 in
set_option maxHeartbeats 8000000 in
theorem msgturned_true (aM aR aN aB aC aT aU aS aK aL aQ : Int) (aY aV : ByteArray) (aZ : Int) (aA : Option Addr) (an ac : Nat) (aE aG aW : Int) (al : List (Int × Int)) (at_ : Int) (t : Nat) (sm : Bool) (w : World) (hT : Glob w) (ha : Rs w aA an ac al) (ht : t < 4294967296) :
    Calls Tryd.prog 4 #[.agg #[.int .i64 aM, .int .i64 aR, .int .i64 aN, .int .i64 aB, .int .i64 aC, .int .i64 aT, .int .i64 aU, .int .i64 aS, .int .i64 aK, .int .i64 aL, .int .i64 aQ, .string aY, .string aV, .int .i64 aZ, .slice aA an ac, .int .i64 aE, .int .i64 aG, .int .i64 aW], .int .i64 at_, .int .u32 (t : Int), .bool sm] w (Tells true w) := by
  obtain ⟨k1, hbb⟩ := box1 w 50 #[.int .i64 aM, .int .i64 aR, .int .i64 aN, .int .i64 aB, .int .i64 aC, .int .i64 aT, .int .i64 aU, .int .i64 aS, .int .i64 aK, .int .i64 aL, .int .i64 aQ, .string aY, .string aV, .int .i64 aZ, .slice aA an ac, .int .i64 aE, .int .i64 aG, .int .i64 aW]
  obtain ⟨W, hW⟩ : ∃ v, w.alloc (.cells #[.int .i64 aM, .int .i64 aR, .int .i64 aN, .int .i64 aB, .int .i64 aC, .int .i64 aT, .int .i64 aU, .int .i64 aS, .int .i64 aK, .int .i64 aL, .int .i64 aQ, .string aY, .string aV, .int .i64 aZ, .slice aA an ac, .int .i64 aE, .int .i64 aG, .int .i64 aW] 50) = v := ⟨_, rfl⟩
  rw [hW] at k1 hbb
  have HKa := Lib.hid k1
  have HB := Lib.hid hbb
  have HW := Lib.hid hW
  have HC := Lib.hid (Below.refl W.heap.size W)
  have HRa := Lib.hid (ha.below hbb)
  have hTW := hT.below hbb
  have HGL := Lib.hid (fun (w' : World) (h : Below W.heap.size W w') => hTW.below h)
  have HAW := Lib.hid (fun (w' : World) (h : Below W.heap.size W w') => awake_any w' (hTW.below h))
  have HG1 := Lib.hid (fun w h => great_any aM aR aN aB aC aT aU aS aK aL aQ aY aV aZ aA an ac aE aG aW al w h)
  have hpa := fun (w' : World) (h : Below W.heap.size W w') => mput_any aM aR aN aB aC aT aU aS aK aL aQ aY aV aZ aA an ac aE aG aW al w' ((ha.below hbb).below h) (hTW.2.below h) (hTW.1.below h)
  have hlen := fun (h : mright ⟨aM, (aR, aN), (aB, aC), (aT, aU), aS, ⟨aK, aL, aQ, aY, aV, aZ⟩, ⟨al, aE, aG⟩, aW⟩ = true) (f : Fit (mgIt ⟨aM, (aR, aN), (aB, aC), (aT, aU), aS, ⟨aK, aL, aQ, aY, aV, aZ⟩, ⟨al, aE, aG⟩, aW⟩)) => And.intro (form_five h) (And.intro (length_form_le _ f) (And.intro (wt_mg h) (Cp.form_bytes _ f)))
  unfold PutsMg mchk at hpa
  generalize great ⟨aM, (aR, aN), (aB, aC), (aT, aU), aS, ⟨aK, aL, aQ, aY, aV, aZ⟩, ⟨al, aE, aG⟩, aW⟩ = ga at HG1
  generalize mgIt ⟨aM, (aR, aN), (aB, aC), (aT, aU), aS, ⟨aK, aL, aQ, aY, aV, aZ⟩, ⟨al, aE, aG⟩, aW⟩ = X at hpa hlen
  generalize mright ⟨aM, (aR, aN), (aB, aC), (aT, aU), aS, ⟨aK, aL, aQ, aY, aV, aZ⟩, ⟨al, aE, aG⟩, aW⟩ = ra at hpa hlen
  have HPA := Lib.hid hpa
  have HLEN := Lib.hid hlen
  have HT32 := Lib.hid ht
  clear hpa hlen k1 hbb hW ha hT hTW
  go_enter Tryd.func4, Tryd.ntmps4
  go_upto_region 1 with fail
  rw [HW.out]
  go_wp2_with (first | (with_reducible refine wpList_load_blk_w 50 _ rfl w.heap.size 50 #[.int .i64 aM, .int .i64 aR, .int .i64 aN, .int .i64 aB, .int .i64 aC, .int .i64 aT, .int .i64 aU, .int .i64 aS, .int .i64 aK, .int .i64 aL, .int .i64 aQ, .string aY, .string aV, .int .i64 aZ, .slice aA an ac, .int .i64 aE, .int .i64 aG, .int .i64 aW] _ ?_ ?_ (HKa.out.bel HC.out) Tryd.underlying50 ?_ ?_ ?_; (focus kernel_rfl); (focus kernel_rfl); (focus rfl); (focus kernel_rfl)))
  refine (HG1.out _ (HRa.out.below HC.out)).mono ?_
  rintro e u1 ⟨rfl, hb1⟩
  replace HC := Lib.hid (bel_trans HC.out hb1)
  clear hb1
  cases ga with
  | false =>
    by_cases h0 : t = 0
    case pos =>
      have q0 : ((t : Int) == 0) = true := by rw [h0]; rfl
      clear ht
      go_wp2_with fail
      refine (HAW.out _ HC.out).mono ?_
      rintro e uz ⟨rfl, hb1⟩
      replace HC := Lib.hid (bel_trans HC.out hb1)
      clear hb1
      go_wp2_with fail
      go_ret
      exact ⟨rfl, HB.out.trans (HC.out.mono HB.out.size)⟩
    have q0 : ((t : Int) == 0) = false := beq_false_of_ne (by omega)
    go_wp2_with (first | (with_reducible refine wpList_load_blk_w 50 _ rfl w.heap.size 50 #[.int .i64 aM, .int .i64 aR, .int .i64 aN, .int .i64 aB, .int .i64 aC, .int .i64 aT, .int .i64 aU, .int .i64 aS, .int .i64 aK, .int .i64 aL, .int .i64 aQ, .string aY, .string aV, .int .i64 aZ, .slice aA an ac, .int .i64 aE, .int .i64 aG, .int .i64 aW] _ ?_ ?_ (HKa.out.bel HC.out) Tryd.underlying50 ?_ ?_ ?_; (focus kernel_rfl); (focus kernel_rfl); (focus rfl); (focus kernel_rfl)))
    have hown0 := HPA.out _ HC.out
    generalize hV0 : u1 = V0 at HC hown0 ⊢
    clear hV0
    refine hown0.mono ?_
    rintro e u3 ⟨A1, n1, c1, rfl, hr1, hb1, hf1⟩
    have HC0 := HC
    replace HC := Lib.hid (bel_trans HC.out hb1)
    cases ra with
    | false =>
      simp only [Bool.false_eq_true, if_false]
      clear hr1 hf1 hb1 ht q0 h0 hown0
      go_wp2_with fail
      refine (HAW.out _ HC.out).mono ?_
      rintro e uz ⟨rfl, hb1⟩
      replace HC := Lib.hid (bel_trans HC.out hb1)
      clear hb1
      go_wp2_with fail
      go_ret
      exact ⟨rfl, HB.out.trans (HC.out.mono HB.out.size)⟩
    | true =>
      simp only [if_true] at hr1 ⊢
      obtain ⟨hfx, hown⟩ := hf1 (by first | rfl | trivial)
      obtain ⟨l5, l6, l7, hlt⟩ := HLEN.out (by first | rfl | trivial) hfx
      obtain ⟨p, hp⟩ : ∃ p, form X = p := ⟨_, rfl⟩
      rw [hp] at hr1 hown l5 l6 hlt
      have hnl : n1 = 5 + p.length := by
        have h := hr1.len
        rw [length_cs, length_frame] at h
        exact h.symm
      obtain ⟨g, rfl, hg⟩ := own_addr hown (by omega)
      have hlb : ∀ b ∈ frame 2 p, b < 256 := frame_lt 2 (by decide) hlt
      have hlf : (frame 2 p).length = n1 := by rw [length_frame, hnl]
      have h10 : decide ((n1 : Int) < 10) = false := decide_eq_false (by omega)
      have hn10 : 10 ≤ n1 := by omega
      have hn6 : n1 ≤ 1000000 := by omega
      obtain ⟨M8, hM8⟩ : ∃ M8, n1 - 8 = M8 := ⟨_, rfl⟩
      have hw8 : IntKind.i64.wrap ((n1 : Int) - 8) = (M8 : Int) := by rw [Go.Proofs.YtjfpfbagckckkaaDoor.wrap64 (by omega) (by omega)]; omega
      have hpk := Cr.pick_lt at_ (M8 : Int) (by omega)
      obtain ⟨J, hJ⟩ : ∃ J : Nat, Cr.pick at_ (M8 : Int) = (J : Int) := ⟨(Cr.pick at_ (M8 : Int)).toNat, by omega⟩
      have hPK := fun w => pick_far at_ (M8 : Int) w (by omega) (by omega)
      rw [hJ] at hPK hpk
      have HPK := Lib.hid hPK
      have hJ8 : J < M8 := by omega
      have hw5 : IntKind.i64.wrap (5 + (J : Int)) = ((5 + J : Nat) : Int) := by rw [Go.Proofs.YtjfpfbagckckkaaDoor.wrap64 (by omega) (by omega)]; omega
      have HOWN := Lib.hid hown
      have HB1 := Lib.hid hb1
      have HLB := Lib.hid hlb
      have HLF := Lib.hid hlf
      have HLT := Lib.hid hlt
      have HNL := Lib.hid hnl
      have HH0 := Lib.hid h0
      clear hr1 hf1 hb1 hown hp hfx hlb hlf hlt hnl h0 hPK hJ hpk l5 l6 l7 q0 ht hown0
      go_upto_if 40 with fail
      go_cut [11] from 12 (fun kv wx => ∃ K : Nat, kv = .int .i64 (K : Int) ∧ (K = 1 ∨ 5 ≤ K ∧ K + 4 ≤ n1) ∧ wx = u3)
      case first =>
        cases sm with
        | true =>
          go_wp2_with fail
          go_meet
          case rel => exact ⟨1, rfl, .inl rfl, rfl⟩
        | false =>
          go_wp2_with fail
          refine (HPK.out _).mono ?_
          rintro e u4 ⟨rfl, rfl⟩
          go_wp2_with fail
          go_meet
          case rel => exact ⟨5 + J, by simp, .inr ⟨by omega, by omega⟩, rfl⟩
      case rest =>
        obtain ⟨K, rfl, hK, rfl⟩ := hcut
        clear hw8 hw5 HPK
        have hKn : K + 4 ≤ n1 := by omega
        have HKK := Lib.hid hK
        have HM8 := Lib.hid hM8
        clear hK hM8 hJ8 h10
        go_upto_region 9 with fail
        go_wp2_with fail
        go_loopw [2, 12] (TurnRel V0 g n1 c1 K t (frame 2 p)) (fun _ i _ => 4 - (intOf i).toNat)
        case atStart => exact ⟨0, Nat.zero_le _, rfl, by simp, by rw [trn_none n1 K t (by omega), ← HLF.out, mix_zeros, HLF.out]; exact HOWN.out, HB1.out⟩
        case round =>
          obtain ⟨i, hi4, rfl, rfl, hown, hbe⟩ := hrel
          by_cases hlt4 : i < 4
          · have hLL : t / 256 ^ i ≤ t := Nat.div_le_self _ _
            have hdn : t / 256 ^ (i + 1) = t / 256 ^ i / 256 := by rw [Nat.pow_succ, Nat.div_div_eq_div_mul]
            have hst := trn_set (n := n1) (I := K) (j := i) (L := t) (by omega)
            obtain ⟨x, hx⟩ : ∃ x, (frame 2 p)[K + i]? = some x := ⟨_, List.getElem?_eq_getElem (show K + i < (frame 2 p).length by rw [HLF.out]; omega)⟩
            have x8 := HLB.out _ (List.mem_of_getElem? hx)
            have hms := mix_set (frame 2 p) (trn n1 K i t) (K + i) x (t / 256 ^ i % 256) hx
            have hat := mix_at hx (trn_at (n := n1) (I := K) (j := i) (L := t) (by omega))
            rw [Nat.xor_zero] at hat
            have hcell := hown.cellAt (K + i) (by omega)
            rw [show (cs (Crc.mix (frame 2 p) (trn n1 K i t)))[K + i]? = some (.int .u8 (x : Int)) by simp [cs, hat]] at hcell
            have hfr := hown.frozenAt (K + i)
            have hsto := (hown.stored (K + i) (.int .u8 ((x ^^^ t / 256 ^ i % 256 : Nat) : Int))).1
            rw [show (cs (Crc.mix (frame 2 p) (trn n1 K i t))).set (K + i) (.int .u8 ((x ^^^ t / 256 ^ i % 256 : Nat) : Int)) = cs (Crc.mix (frame 2 p) (trn n1 K (i + 1) t)) by rw [← hst, ← hms]; simp [cs, List.map_set]] at hsto
            have hT32 := HT32.out
            generalize t / 256 ^ i = M at hLL hdn hsto ⊢
            obtain ⟨R, hR⟩ : ∃ R : Nat, (M : Int) % 256 = (R : Int) := ⟨M % 256, by omega⟩
            have hRM : M % 256 = R := by omega
            have hR8 : R < 256 := by omega
            rw [hRM] at hsto
            have hxr := u8_xor_nat x R x8 hR8
            have hM32 : M < 4294967296 := by omega
            have HDN := Lib.hid hdn
            have HST := Lib.hid hsto
            have HBE := Lib.hid hbe
            clear hst hx hms hat hsto hdn hbe hown hRM x8 hLL hT32
            go_wp2_with fail
            exact ⟨⟨i + 1, by omega, by simp, by rw [HDN.out]; simp, HST.out, HBE.out.setCell hg _⟩, by simp [intOf]; omega⟩
          · obtain rfl : i = 4 := by omega
            have hop : openX 2 (Crc.mix (frame 2 p) (trn n1 K 4 t)) = (Cmd.zeroIt, 5) := by
              rw [HNL.out]
              rcases HKK.out with rfl | ⟨hk5, hk4⟩
              · exact turned_sum p HLT.out t HT32.out HH0.out
              · obtain ⟨q, rfl⟩ : ∃ q, K = 5 + q := ⟨K - 5, by omega⟩
                exact turned_rest p HLT.out q t (by have := HNL.out; omega) HT32.out HH0.out
            have hgl := HGL.out _ (HC0.out.trans (hbe.mono HC0.out.size))
            have htk := mtake_any (Crc.mix (frame 2 p) (trn n1 K 4 t)) (some ⟨g, 0, none⟩) n1 c1 wr hgl.2 hgl.1 (Rd.own hown) (mix_lt HLB.out trn_lt) hn6
            rw [hop, ownTake_bad _ (by decide)] at htk
            have HTK := Lib.hid htk
            have HBE := Lib.hid hbe
            clear htk hop hgl hown hbe
            go_wp2_with fail
            refine HTK.out.mono ?_
            rintro e u5 ⟨V, k9, c9, rfl, hrs, hb5⟩
            have hval : (#[.int .i64 zeroMg.kd, .int .i64 zeroMg.id.1, .int .i64 zeroMg.id.2, .int .i64 zeroMg.bl.1, .int .i64 zeroMg.bl.2, .int .i64 zeroMg.tk.1, .int .i64 zeroMg.tk.2, .int .i64 zeroMg.st, .int .i64 zeroMg.cm.kd, .int .i64 zeroMg.cm.cl, .int .i64 zeroMg.cm.sq, .string zeroMg.cm.ky, .string zeroMg.cm.vl, .int .i64 zeroMg.cm.rv, .slice V k9 c9, .int .i64 zeroMg.at_.sq, .int .i64 zeroMg.at_.tg, .int .i64 zeroMg.vn] : Array Value) = #[.int .i64 0, .int .i64 0, .int .i64 0, .int .i64 0, .int .i64 0, .int .i64 0, .int .i64 0, .int .i64 0, .int .i64 0, .int .i64 0, .int .i64 0, .string ⟨#[]⟩, .string ⟨#[]⟩, .int .i64 0, .slice V k9 c9, .int .i64 0, .int .i64 0, .int .i64 0] := rfl
            simp only
            rw [hval]
            have hb6 := bel_alloc ((HC0.out.trans (HBE.out.mono HC0.out.size)).trans (hb5.mono (by have := HC0.out.size; have := HBE.out.size; omega))) (.cells #[.int .i64 0, .int .i64 0, .int .i64 0, .int .i64 0, .int .i64 0, .int .i64 0, .int .i64 0, .int .i64 0, .int .i64 0, .int .i64 0, .int .i64 0, .string ⟨#[]⟩, .string ⟨#[]⟩, .int .i64 0, .slice V k9 c9, .int .i64 0, .int .i64 0, .int .i64 0] 50)
            obtain ⟨X6, hX6⟩ : ∃ v, u5.alloc (.cells #[.int .i64 0, .int .i64 0, .int .i64 0, .int .i64 0, .int .i64 0, .int .i64 0, .int .i64 0, .int .i64 0, .int .i64 0, .int .i64 0, .int .i64 0, .string ⟨#[]⟩, .string ⟨#[]⟩, .int .i64 0, .slice V k9 c9, .int .i64 0, .int .i64 0, .int .i64 0] 50) = v := ⟨_, rfl⟩
            rw [hX6] at hb6
            have HX6 := Lib.hid hX6
            replace HC := Lib.hid hb6
            clear hval hb6 hX6 hb5 hrs HTK
            go_upto_region 15 with fail
            rw [HX6.out]

            go_wp2_with fail
            refine (HAW.out _ HC.out).mono ?_
            rintro e uz ⟨rfl, hb1⟩
            replace HC := Lib.hid (bel_trans HC.out hb1)
            clear hb1
            go_wp2_with fail
            go_ret
            exact ⟨rfl, HB.out.trans (HC.out.mono HB.out.size)⟩
  | true =>
    go_wp2_with fail
    refine (HAW.out _ HC.out).mono ?_
    rintro e uz ⟨rfl, hb1⟩
    replace HC := Lib.hid (bel_trans HC.out hb1)
    clear hb1
    go_wp2_with fail
    go_ret
    exact ⟨rfl, HB.out.trans (HC.out.mono HB.out.size)⟩
end Go.Proofs.YtjfpfbagckckkaaDoor.Mg
/- MsgTurned's walk, with the turn as it comes in. -/
namespace Go.Proofs.YtjfpfbagckckkaaDoor.Mg
open Go.RowKit Mem Ids

theorem msgturned_any (aM aR aN aB aC aT aU aS aK aL aQ : Int) (aY aV : ByteArray) (aZ : Int) (aA : Option Addr) (an ac : Nat) (aE aG aW : Int) (al : List (Int × Int)) (at_ t : Int) (sm : Bool) (w : World) (hT : Glob w) (ha : Rs w aA an ac al) (h0 : 0 ≤ t) (h1 : t ≤ 4294967295) :
    Calls Tryd.prog 4 #[.agg #[.int .i64 aM, .int .i64 aR, .int .i64 aN, .int .i64 aB, .int .i64 aC, .int .i64 aT, .int .i64 aU, .int .i64 aS, .int .i64 aK, .int .i64 aL, .int .i64 aQ, .string aY, .string aV, .int .i64 aZ, .slice aA an ac, .int .i64 aE, .int .i64 aG, .int .i64 aW], .int .i64 at_, .int .u32 t, .bool sm] w (Tells true w) := by
  obtain ⟨T, rfl⟩ := Int.eq_ofNat_of_zero_le h0
  exact msgturned_true aM aR aN aB aC aT aU aS aK aL aQ aY aV aZ aA an ac aE aG aW al at_ T sm w hT ha (by omega)
end Go.Proofs.YtjfpfbagckckkaaDoor.Mg
