/-
  Texts of earlier layers, as one.
-/
import Derived.Test.YtkejjdoaljoooaaGreatDoorRBase
/- The bytes of a form. -/
namespace Go.Proofs.YtkejjdoaljoooaaGreatDoor.Cp
open Go.RowKit Mem Cod
theorem forms_mem {l : List It} {b : Nat} (h : b ∈ forms l) : ∃ y ∈ l, b ∈ form y := by
 induction l with
 | nil => simp [forms] at h
 | cons x l ih =>
   rw [forms, List.mem_append] at h;rcases h with h | h
   · exact ⟨x, by simp, h⟩
   · obtain ⟨y, hy, hb⟩ := ih h
     exact ⟨y, by simp [hy], hb⟩
theorem form_bytes (x : It) : Fit x → ∀ b ∈ form x, b < 256 := by
 induction x using It.ind with
 | h x ih =>
 intro hf b hb;obtain ⟨k, n, s, l⟩ := x;rw [fit_eq] at hf;simp only [It.num, It.str, It.kids] at hf ih;rw [form] at hb;split at hb
 · rcases List.mem_cons.1 hb with rfl | hb
   · omega
   · exact Num.put_lt n (by omega) b hb
 · split at hb
   · rcases List.mem_cons.1 hb with rfl | hb
     · omega
     · rcases List.mem_append.1 hb with hb | hb
       · exact Num.put_lt _ (by omega) b hb
       · exact Cod.bts_lt s b hb
   · rcases List.mem_cons.1 hb with rfl | hb
     · omega
     · rcases List.mem_append.1 hb with hb | hb
       · exact Num.put_lt _ (by omega) b hb
       · obtain ⟨y, hy, hb⟩ := forms_mem hb
         exact ih y hy (hf.2.2.2 y hy) b hb
end Go.Proofs.YtkejjdoaljoooaaGreatDoor.Cp
