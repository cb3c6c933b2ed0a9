/-
  codec.harvest: the item of a tree, with lists of its own.
-/
import Derived.Test.YthlhlhihllgfiaaCodItem
import Derived.Test.YthlhlhihllgfiaaCodList
namespace Go.Proofs.Ythlhlhihllgfiaa
open Go.RowKit Mem Cod

/-- What harvest comes to. -/
def Harv (x : It) (w : World) (e : Ending) (w' : World) : Prop :=
  ∃ A c, e = .returned (.agg #[.int .i64 x.kind, .int .u64 (x.num : Int), .string x.str, .slice A x.kids.length c]) ∧ Lies w' (fun b => w.heap.size ≤ b) x A c ∧ Below w.heap.size w w'

def HarvRel (w : World) (l : List It) (parts i : Value) (wr : World) : Prop :=
  ∃ (k : Nat) (V : Option Addr) (cv : Nat) (hs : List Hung), k ≤ l.length ∧ i = .int .i64 k ∧ parts = .slice V k cv ∧ wr.ownsRow w.heap.size 25 4 (.slice V k cv) k (cells4 hs) ∧ hs.map (·.x) = l.take k ∧ Below w.heap.size w wr ∧
    ∀ h ∈ hs, Lies wr (fun b => w.heap.size ≤ b ∧ some b ≠ (Value.slice V k cv).ownBlock) h.x h.A h.c

theorem blk4_soft {w : World} {g : Nat} {t : TypeId} {a b c d : Value} (h : Blk w g t #[a, b, c, d]) : w.frozen? ⟨g, 0, none⟩ = false ∧ w.frozen? ⟨g, 1, none⟩ = false ∧ w.frozen? ⟨g, 2, none⟩ = false ∧ w.frozen? ⟨g, 3, none⟩ = false :=
  ⟨h.soft 0, h.soft 1, h.soft 2, h.soft 3⟩

/-- The end of a function whose answer is an item that it has laid into its box. -/
theorem item_end {x : It} {w w1 : World} {A : Option Addr} {c : Nat} (hb : Below w.heap.size w w1) (hl : Lies w1 (fun b => w.heap.size + 1 ≤ b) x A c) (hk : Blk w1 w.heap.size 25 #[.int .i64 0, .int .u64 0, .string ⟨#[]⟩, .slice none 0 0]) :
    Harv x w (.returned (.agg #[.int .i64 x.kind, .int .u64 (x.num : Int), .string x.str, .slice A x.kids.length c])) ((((w1.setCell ⟨w.heap.size, 0, none⟩ (.int .i64 x.kind)).setCell ⟨w.heap.size, 1, none⟩ (.int .u64 (x.num : Int))).setCell ⟨w.heap.size, 2, none⟩ (.string x.str)).setCell ⟨w.heap.size, 3, none⟩ (.slice A x.kids.length c)) := by
  obtain ⟨_, hg⟩ := blk4_set hk (.int .i64 x.kind) (.int .u64 (x.num : Int)) (.string x.str) (.slice A x.kids.length c)
  refine ⟨A, c, rfl, (hl.grown hg fun b hb => by simp; omega).more fun b hb _ => by omega, hb.trans (gr_below hg hb.size fun b hb => by cases hb; exact Nat.le_refl _)⟩

theorem own_row4 {w : World} {base : Nat} {V : Option Addr} {n c : Nat} {hs : List Hung} {S : Nat → Prop} (h : w.ownsRow base 25 4 (.slice V n c) n (cells4 hs)) (hS : ∀ b, base ≤ b → S b) (hL : ∀ h ∈ hs, Lies w S h.x h.A h.c) :
    Row w S V n c (hs.map (·.x)) := by
  have hl := h.1
  rw [length_cells4] at hl
  rcases h.2 with ⟨e, h0⟩ | ⟨g, cap, cur, e, hb, hg, hnc, hm, hs', ht⟩
  · cases e
    exact Row.of_hung (by omega) ⟨Nat.le_refl _, by omega, fun _ => rfl⟩ hL fun h => by omega
  · cases e
    unfold maxLen at hm
    exact Row.of_hung (by omega) ⟨hnc, by omega, fun e => by cases e⟩ hL fun _ => ⟨⟨g, 0, none⟩, rfl, hS _ hb, (Array.getElem?_eq_some_iff.1 hg).1, h.cells (g := g) rfl⟩

theorem harvest_num (n : Nat) (w : World) (hn : n ≤ 18446744073709551615) : Calls Try.prog 32 #[.iface 75 (.int .u64 (n : Int))] w (Harv (.mk 0 n ByteArray.empty []) w) := by
  have a1 := as_num_num
  go_enter Try.func32, Try.ntmps32
  go_wp2_with fail
  refine (num_any n _).mono ?_
  rintro e w1 ⟨rfl, hb⟩
  have hk := (Blk.new w 25 #[.int .i64 0, .int .u64 0, .string ⟨#[]⟩, .slice none 0 0]).bel hb
  obtain ⟨c0, c1, c2, c3⟩ := blk4 hk
  obtain ⟨z0, z1, z2, z3⟩ := blk4_soft hk
  go_wp2_with fail
  refine bodyPost_ret (v := .agg #[.int .i64 0, .int .u64 (n : Int), .string ByteArray.empty, .slice none 0 0]) (by simp [results, Try.results32, go_sem, c0, c1, c2, c3]) rfl ?_
  exact item_end (x := .mk 0 n ByteArray.empty []) ((bel_alloc (Below.refl _ _) _).trans (hb.mono (by rw [size_alloc]; omega))) (Row.lies (l := []) (m := 0) ⟨rfl, ⟨by omega, by omega, fun _ => rfl⟩, fun i y h => by simp at h⟩ (by omega) hn (by show (0 : Nat) ≤ _; omega)) hk

theorem harvest_text (s : ByteArray) (w : World) (hn : s.size ≤ 140737488355328) : Calls Try.prog 32 #[.iface 76 (.string s)] w (Harv (.mk 1 0 s []) w) := by
  have a1 := as_text_num
  have a2 := as_text_text
  go_enter Try.func32, Try.ntmps32
  go_wp2_with fail
  refine (text_any s _).mono ?_
  rintro e w1 ⟨rfl, hb⟩
  have hk := (Blk.new w 25 #[.int .i64 0, .int .u64 0, .string ⟨#[]⟩, .slice none 0 0]).bel hb
  obtain ⟨c0, c1, c2, c3⟩ := blk4 hk
  obtain ⟨z0, z1, z2, z3⟩ := blk4_soft hk
  go_wp2_with fail
  refine bodyPost_ret (v := .agg #[.int .i64 1, .int .u64 0, .string s, .slice none 0 0]) (by simp [results, Try.results32, go_sem, c0, c1, c2, c3]) rfl ?_
  exact item_end (x := .mk 1 0 s []) ((bel_alloc (Below.refl _ _) _).trans (hb.mono (by rw [size_alloc]; omega))) (Row.lies (l := []) (m := 0) ⟨rfl, ⟨by omega, by omega, fun _ => rfl⟩, fun i y h => by simp at h⟩ (by omega) (by omega) hn) hk

set_option maxHeartbeats 4000000 in
theorem harvest_list (l : List It) (A : Option Addr) (cl : Nat) (S : Nat → Prop) (w : World) (hx : IsNode w S (.mk 2 0 ByteArray.empty l) (.iface 78 (.slice A l.length cl))) (hS : ∀ b, S b → b < w.heap.size) (hlen : l.length ≤ 2000000)
    (ih : ∀ (y : It) (u : Value) (w' : World), y ∈ l → IsNode w' S y u → w.heap.size ≤ w'.heap.size → Calls Try.prog 32 #[u] w' (Harv y w')) :
    Calls Try.prog 32 #[.iface 78 (.slice A l.length cl)] w (Harv (.mk 2 0 ByteArray.empty l) w) := by
  obtain ⟨i0, hi, hz0, hz1, hz2⟩ := info_parts info25
  have HX := Lib.hid hx
  have HS := Lib.hid hS
  have IH := Lib.hid ih
  clear hx hS ih
  have a1 := as_list_num
  have a2 := as_list_text
  have a3 := as_list
  go_enter Try.func32, Try.ntmps32
  go_wp2_with fail
  have hk0 := Blk.new w 25 #[.int .i64 0, .int .u64 0, .string ⟨#[]⟩, .slice none 0 0]
  have hw0 : Below w.heap.size w (w.alloc (.cells #[.int .i64 0, .int .u64 0, .string ⟨#[]⟩, .slice none 0 0] 25)) := bel_alloc (Below.refl _ _) _
  have hsz0 : (w.alloc (.cells #[.int .i64 0, .int .u64 0, .string ⟨#[]⟩, .slice none 0 0] 25)).heap.size = w.heap.size + 1 := size_alloc _ _
  have hst : HarvRel (w.alloc (.cells #[.int .i64 0, .int .u64 0, .string ⟨#[]⟩, .slice none 0 0] 25)) l (.slice none 0 0) (.int .i64 0) (w.alloc (.cells #[.int .i64 0, .int .u64 0, .string ⟨#[]⟩, .slice none 0 0] 25)) :=
    ⟨0, none, 0, [], Nat.zero_le _, rfl, rfl, ⟨rfl, .inl ⟨rfl, rfl⟩⟩, by simp, Below.refl _ _, fun h hh => by simp at hh⟩
  generalize (w.alloc (.cells #[.int .i64 0, .int .u64 0, .string ⟨#[]⟩, .slice none 0 0] 25)) = w0 at hk0 hw0 hsz0 hst ⊢
  have HK0 := Lib.hid hk0
  have HW0 := Lib.hid hw0
  have HSZ0 := Lib.hid hsz0
  clear hk0 hw0 hsz0
  go_loopw [7, 29] (HarvRel w0 l) (fun _ i _ => l.length - (intOf i).toNat)
  case atStart => exact hst
  case round =>
    clear hst
    obtain ⟨k, V, cv, hs, hk, rfl, rfl, hown, hmap, hbw, hlies⟩ := hrel
    have HO := Lib.hid hown
    have HM := Lib.hid hmap
    have HB := Lib.hid hbw
    have HLS := Lib.hid hlies
    clear hown hmap hbw hlies
    have hsr : w.heap.size + 1 ≤ wr.heap.size := by have := HB.out.size; have := HSZ0.out; omega
    by_cases hlt : k < l.length
    · obtain ⟨ad, cc, u, e, hSb, hblk, hcell, hnu⟩ := ((node_eq _ _ _ _).1 HX.out).2 k hlt
      simp only [It.kids] at e hnu
      injection e with _ e
      injection e with e1 _ e2
      subst e1
      subst e2
      have hbw2 : Below w.heap.size w wr := HW0.out.trans (HB.out.mono (by have := HSZ0.out; omega))
      have hc : wr.cell? (ad.add k) = some u := (hbw2.cell (by rw [add_block]; exact HS.out _ hSb)).trans hcell
      have HC := Lib.hid hcell
      have HNU := Lib.hid (hnu.below (S' := S) hbw2 fun b hb _ => ⟨HS.out b hb, hb⟩)
      clear hcell hnu hbw2
      go_wp2_with fail
      refine (IH.out l[k] u wr (List.getElem_mem hlt) HNU.out (by omega)).mono ?_
      rintro e w4 ⟨A4, c4, rfl, hl4, hb4⟩
      have HL4 := Lib.hid hl4
      have HB4 := Lib.hid hb4
      have hs4 : wr.heap.size ≤ w4.heap.size := hb4.size
      clear hl4 hb4
      generalize hy : l[k] = y at HL4
      have HY := Lib.hid hy
      clear hy HNU
      have hown4 : w4.ownsRow w0.heap.size 25 4 (.slice V k cv) k (cells4 hs) := HO.out.kept (below_gr HB4.out none) (by cases (Value.slice V k cv).ownBlock <;> simp)
      have HNB := Lib.hid (World.news_of_block (Blk.new w4 25 #[.int .i64 y.kind, .int .u64 (y.num : Int), .string y.str, .slice A4 y.kids.length c4]))
      go_wp2_with (at_builtin; refine wpList_append_lies _ rfl (.tmp 33) (.tmp 36) 23 rfl w0.heap.size 25 i0 _ 4 56 Try.underlying23 hi hz0 hz1 hz2 rfl (by omega) (.slice V k cv) k (cells4 hs) rfl (hown4.alloc _) ⟨w4.heap.size, 0, none⟩ 1 1 [.int .i64 y.kind, .int .u64 (y.num : Int), .string y.str, .slice A4 y.kids.length c4] rfl rfl HNB.out (by intro u hu; simp at hu; rcases hu with rfl | rfl | rfl | rfl <;> rfl) (by omega) (by unfold maxLen; omega) (by omega) (by rw [size_alloc]; have := HSZ0.out; omega) (w4.heap.size + 1) (by rw [size_alloc]) ?_; intro g' cap' w7 hown7 hgr7 hat7 hlt7)
      have hs7 : w4.heap.size + 1 ≤ w7.heap.size := by have := hgr7.size; rw [size_alloc] at this; exact this
      have hg'5 : ∀ b, b < w4.heap.size → some b ≠ (Value.slice V k cv).ownBlock → some b ≠ (Value.slice (some ⟨g', 0, none⟩) (k + 1) cap').ownBlock := by
        intro b hb hne e
        have e' : b = g' := by simpa [Value.ownBlock] using e
        rcases hat7 with h | h
        · exact hne (by rw [h, e'])
        · omega
      have hcell7 : ∀ b, b < w4.heap.size → some b ≠ (Value.slice V k cv).ownBlock → w7.heap[b]? = w4.heap[b]? := fun b hb hne =>
        (hgr7.block b (by rw [size_alloc]; omega) hne).trans (Below.heap_alloc _ _ b hb)
      refine ⟨⟨k + 1, _, cap', hs ++ [⟨y, A4, c4⟩], by omega, by simp, rfl, by rw [show cells4 (hs ++ [⟨y, A4, c4⟩]) = cells4 hs ++ [.int .i64 y.kind, .int .u64 (y.num : Int), .string y.str, .slice A4 y.kids.length c4] by simp [cells4, Hung.cells]]; exact hown7, ?_, ?_, ?_⟩, by simp [intOf]; omega⟩
      · rw [List.map_append, HM.out, List.map_cons, List.map_nil, ← HY.out, List.take_add_one, List.getElem?_eq_getElem hlt]
        rfl
      · refine (HB.out.trans (HB4.out.mono (by have := HSZ0.out; omega))).trans (((bel_alloc (Below.refl _ _) _).mono (by have := HSZ0.out; omega)).trans (gr_below hgr7 (by rw [size_alloc]; have := HSZ0.out; omega) fun b hb => (HO.out.lt b hb).1))
      · intro h hh
        rcases List.mem_append.1 hh with hh | hh
        · refine (HLS.out h hh).keep h.x (fun b hb hlt' => ⟨hb.1, hg'5 b (by omega) hb.2⟩) (by omega) fun p hp hlt' => ?_
          exact World.cell?_of_block ((hcell7 _ (by omega) hp.2).trans (HB4.out.block _ hlt'))
        · have : h = ⟨y, A4, c4⟩ := by simpa using hh
          subst this
          refine HL4.out.keep _ (fun b hb hlt' => ⟨by have := HSZ0.out; omega, hg'5 b hlt' fun e => ?_⟩) (by omega) fun p hp hlt' => World.cell?_of_block (hcell7 _ hlt' fun e => ?_)
          · have := (HO.out.lt b e.symm).2; omega
          · have := (HO.out.lt _ e.symm).2; omega
    · obtain rfl : k = l.length := by omega
      have hk1 := HK0.out.below HB.out (by have := HSZ0.out; omega)
      obtain ⟨c0, c1, c2, c3⟩ := blk4 hk1
      obtain ⟨z0, z1, z2, z3⟩ := blk4_soft hk1
      go_wp2_with fail
      refine bodyPost_ret (v := .agg #[.int .i64 2, .int .u64 0, .string ByteArray.empty, .slice V l.length cv]) (by simp [results, Try.results32, go_sem, c0, c1, c2, c3]; rfl) rfl ?_
      have hm := HM.out
      rw [List.take_length] at hm
      have hr := own_row4 (S := fun b => w.heap.size + 1 ≤ b) HO.out (fun b hb => by have := HSZ0.out; omega) fun h hh => (HLS.out h hh).more fun b hb _ => by have := HSZ0.out; omega
      rw [hm] at hr
      exact item_end (x := .mk 2 0 ByteArray.empty l) (HW0.out.trans (HB.out.mono (by have := HSZ0.out; omega))) (hr.lies (by omega) (by omega) (by show (0 : Nat) ≤ _; omega)) hk1

theorem harvest_any (x : It) : ∀ (v : Value) (S : Nat → Prop) (w : World), IsNode w S x v → (∀ b, S b → b < w.heap.size) → wt x ≤ 2000000 → Calls Try.prog 32 #[v] w (Harv x w) := by
  induction x using It.ind with
  | h x ih =>
  intro v S w hx hS hn
  rcases ((node_eq _ _ _ _).1 hx).1 with ⟨e, h1, rfl⟩ | ⟨e, h1, rfl⟩ | ⟨e, A, cl, rfl, h1, h2, h3⟩
  · have := harvest_num x.num w h1
    rwa [← e] at this
  · have := harvest_text x.str w h1
    rwa [← e] at this
  · have hx' := hx
    rw [e] at hx'
    have hlen : x.kids.length ≤ 2000000 := by
      have := wt_eq x
      have := length_wts x.kids
      omega
    have := harvest_list x.kids A cl S w hx' hS hlen fun y u w' hy hnu hs => ih y hy u S w' hnu (fun b hb => by have := hS b hb; omega) (by
      have := wt_mem hy
      have := wt_eq x
      omega)
    rwa [← e] at this
end Go.Proofs.Ythlhlhihllgfiaa
