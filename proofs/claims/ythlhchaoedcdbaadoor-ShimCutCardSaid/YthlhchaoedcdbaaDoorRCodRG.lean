/-
  Texts of earlier layers, as one.
-/
import Derived.Test.YthlhchaoedcdbaaDoorRCod
import Derived.Test.YthlhchaoedcdbaaDoorRCodP
import Derived.Test.YthlhchaoedcdbaaDoorRCodG
import Derived.Test.YthlhchaoedcdbaaDoorRNum
/- The document's example holds: 'awake' answers true, whatever the world; what was there stays. -/
namespace Go.Proofs.YthlhchaoedcdbaaDoor.Cp
open Go.RowKit Mem Cod

theorem lies_leaf (w : World) (S : Nat → Prop) {k : Int} {n : Nat} {s : ByteArray} (hk : -9223372036854775808 ≤ k ∧ k ≤ 9223372036854775807) (hn : n ≤ 18446744073709551615) (hs : s.size ≤ 140737488355328) : Lies w S (.mk k n s []) none 0 := by
  rw [lies_eq]
  exact ⟨⟨hk.1, hk.2, hn, hs⟩, ⟨Nat.le_refl _, by omega, fun _ => rfl⟩, fun i hi => by simp [It.kids] at hi⟩

/-- A slice literal of items, just made. -/
theorem row_lit (W : World) (hs : List Hung) (vs : Array Value) (n : Nat) (hv : vs.toList = cells4 hs) (hn : hs.length = n) (hm : n ≤ 9223372036854775807) (hl : ∀ h ∈ hs, Lies W (fun b => b < W.heap.size) h.x h.A h.c) :
    Row (W.alloc (.cells vs 51)) (fun b => b < W.heap.size + 1) (some ⟨W.heap.size, 0, none⟩) n n (hs.map (·.x)) := by
  refine Row.of_hung hn ⟨Nat.le_refl _, hm, (fun e => by cases e)⟩ (fun h hh => ((hl h hh).alloc _).more fun b hb _ => by omega) fun _ => ⟨_, rfl, Nat.lt_succ_self _, by simp, fun j u hu => ?_⟩
  rw [Addr.add_lit, Nat.zero_add, cell_of_row _ _ _ _ _ _ (heap_alloc_new W _)]
  rw [← hv] at hu
  simpa using hu

def exam : It := .mk 2 0 ByteArray.empty [.mk 0 5 ByteArray.empty [], .mk 1 0 ⟨#[97]⟩ []]
theorem exam_chk : chk exam 0 = 0 := by decide
theorem exam_form : form exam = [2, 2, 0, 5, 1, 1, 97] := by decide

end Go.Proofs.YthlhchaoedcdbaaDoor.Cp
/- The document's take: the item that begins at a place, or an error and its place. -/
namespace Go.Proofs.YthlhchaoedcdbaaDoor.Cp
open Go.RowKit Mem Cod

/-- What take comes to. -/
def Tuck (b : List Nat) (r p : Nat) (w : World) (e : Ending) (w' : World) : Prop :=
  Below w.heap.size w w' ∧ ((∃ x q A c, tk b r p = .ok x q ∧ e = .returned (.agg #[.int .i64 x.kind, .int .u64 (x.num : Int), .string x.str, .slice A x.kids.length c, .int .i64 (q : Int), .int .i64 0, .int .i64 0]) ∧ Lies w' (fun b => w.heap.size ≤ b) x A c) ∨
    (∃ er q, tk b r p = .bad er q ∧ e = .returned (.agg #[.int .i64 0, .int .u64 0, .string ⟨#[]⟩, .slice none 0 0, .int .i64 0, .int .i64 (er : Int), .int .i64 (q : Int)])))

theorem blk7 {w : World} {g : Nat} {t : TypeId} {a b c d e f h : Value} (k : Blk w g t #[a, b, c, d, e, f, h]) : w.cell? ⟨g, 0, none⟩ = some a ∧ w.cell? ⟨g, 1, none⟩ = some b ∧ w.cell? ⟨g, 2, none⟩ = some c ∧ w.cell? ⟨g, 3, none⟩ = some d ∧ w.cell? ⟨g, 4, none⟩ = some e ∧ w.cell? ⟨g, 5, none⟩ = some f ∧ w.cell? ⟨g, 6, none⟩ = some h :=
  ⟨k.cell 0, k.cell 1, k.cell 2, k.cell 3, k.cell 4, k.cell 5, k.cell 6⟩
theorem blk7_soft {w : World} {g : Nat} {t : TypeId} {a b c d e f h : Value} (k : Blk w g t #[a, b, c, d, e, f, h]) : w.frozen? ⟨g, 0, none⟩ = false ∧ w.frozen? ⟨g, 1, none⟩ = false ∧ w.frozen? ⟨g, 2, none⟩ = false ∧ w.frozen? ⟨g, 3, none⟩ = false ∧ w.frozen? ⟨g, 4, none⟩ = false ∧ w.frozen? ⟨g, 5, none⟩ = false ∧ w.frozen? ⟨g, 6, none⟩ = false :=
  ⟨k.soft 0, k.soft 1, k.soft 2, k.soft 3, k.soft 4, k.soft 5, k.soft 6⟩
/-- Seven cells written over. -/
abbrev lay7 (w : World) (g : Nat) (a b c d e f h : Value) : World := (((((((w.setCell ⟨g, 0, none⟩ a).setCell ⟨g, 1, none⟩ b).setCell ⟨g, 2, none⟩ c).setCell ⟨g, 3, none⟩ d).setCell ⟨g, 4, none⟩ e).setCell ⟨g, 5, none⟩ f).setCell ⟨g, 6, none⟩ h)
theorem blk7_set {w : World} {g : Nat} {t : TypeId} {a b c d e f h : Value} (k : Blk w g t #[a, b, c, d, e, f, h]) (a' b' c' d' e' f' h' : Value) :
    Blk (lay7 w g a' b' c' d' e' f' h') g t #[a', b', c', d', e', f', h'] ∧ w.grownBy (lay7 w g a' b' c' d' e' f' h') (some g) :=
  ⟨by simpa [lay7] using ((((((k.put 0 a').put 1 b').put 2 c').put 3 d').put 4 e').put 5 f').put 6 h',
    gr_set (p := ⟨g, 6, none⟩) (gr_set (p := ⟨g, 5, none⟩) (gr_set (p := ⟨g, 4, none⟩) (gr_set (p := ⟨g, 3, none⟩) (gr_set (p := ⟨g, 2, none⟩) (gr_set (p := ⟨g, 1, none⟩) (gr_set (p := ⟨g, 0, none⟩) (gr_refl w (some g)) (.inl rfl) _) (.inl rfl) _) (.inl rfl) _) (.inl rfl) _) (.inl rfl) _) (.inl rfl) _) (.inl rfl) _⟩

/-- The ends: what is answered was laid into the answer's box. -/
theorem tuck_bad {b : List Nat} {r p er q : Nat} {w w' : World} (h : tk b r p = .bad er q) (hb : Below w.heap.size w w') :
    Tuck b r p w (.returned (.agg #[.int .i64 0, .int .u64 0, .string ⟨#[]⟩, .slice none 0 0, .int .i64 0, .int .i64 (er : Int), .int .i64 (q : Int)])) w' := ⟨hb, .inr ⟨er, q, h, rfl⟩⟩

def TuckRel (W : World) (b : List Nat) (r q0 n v Bx : Nat) (at_ i : Value) (wr : World) : Prop :=
  ∃ (k : Nat) (V : Option Addr) (cv : Nat) (hs : List Hung) (xs : List It) (q : Nat), k ≤ v ∧ i = .int .i64 k ∧ at_ = .int .i64 (q : Int) ∧ Blk wr Bx 51 #[.int .i64 2, .int .u64 0, .string ⟨#[]⟩, .slice V k cv] ∧
    wr.ownsRow (Bx + 1) 51 4 (.slice V k cv) k (cells4 hs) ∧ hs.map (·.x) = xs ∧ rows (tk b r) k q0 = .ok xs q ∧ q ≤ n ∧ W.grownBy wr (some Bx) ∧
    ∀ h ∈ hs, Lies wr (fun b => Bx + 1 ≤ b ∧ some b ≠ (Value.slice V k cv).ownBlock) h.x h.A h.c

end Go.Proofs.YthlhchaoedcdbaaDoor.Cp
/- The document's Get: the item that bytes are, or an error and its place. -/
namespace Go.Proofs.YthlhchaoedcdbaaDoor.Cp
open Go.RowKit Mem Cod

theorem get_end {b : List Nat} {w w1 : World} {x : It} {A : Option Addr} {c er p : Nat} (hp : getX b = x ∧ getE b = er ∧ getP b = p) (hb : Below w.heap.size w w1) (hl : Lies w1 (fun b => w.heap.size ≤ b) x A c) :
    GetIs b w (.returned (.tuple #[.agg #[.int .i64 x.kind, .int .u64 (x.num : Int), .string x.str, .slice A x.kids.length c], .int .i64 (er : Int), .int .i64 (p : Int)])) w1 := by
  obtain ⟨rfl, rfl, rfl⟩ := hp
  exact ⟨A, c, rfl, hl, hb⟩

end Go.Proofs.YthlhchaoedcdbaaDoor.Cp
