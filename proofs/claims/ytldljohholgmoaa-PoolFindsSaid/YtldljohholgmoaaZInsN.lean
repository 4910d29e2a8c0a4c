/-
  A slice of instructions in a new block. No conditions.
-/
import Derived.Test.YtldljohholgmoaaQWords
namespace Go.Proofs.Ytldljohholgmoaa
open Go.RowKit

theorem inss_new (l : List Ins) (w : World) : Inss (w.alloc (.cells (inssW l).toArray 57)) (some ⟨w.heap.size, 0, none⟩) l.length l := by
  have hk := Bk.new w 57 (inssW l).toArray
  refine ⟨by rw [inssW_length], Nat.le_refl _, fun h => (by cases h), fun _ => ⟨_, _, rfl, hk.lt, fun j _ => ?_⟩⟩
  rw [hk.cell]
  simp

end Go.Proofs.Ytldljohholgmoaa
