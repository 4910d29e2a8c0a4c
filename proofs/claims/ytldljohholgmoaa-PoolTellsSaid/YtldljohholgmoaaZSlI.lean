/-
  A place of a slice of ints. It names no function of the program. No conditions.
-/
import Derived.Test.YtldljohholgmoaaQWords
namespace Go.Proofs.Ytldljohholgmoaa
open Go.RowKit

/-- a place of a slice of ints. -/
theorem Sl.int {w : World} {A : Option Addr} {n c : Nat} {l : List Int} (h : Sl w 1 A n c (l.map (.int .i64))) {j : Nat} (hj : j < n) : ∃ b off, A = some ⟨b, off, none⟩ ∧ b < w.heap.size ∧ w.cell? ⟨b, off + j, none⟩ = some (.int .i64 (l[j]?.getD 0)) := by
  obtain ⟨b, off, rfl, hb, hc⟩ := h.2.2.2 (by omega)
  have hl := h.1
  simp at hl
  refine ⟨b, off, rfl, hb, ?_⟩
  rw [hc j (by omega)]
  simp [show j < l.length by omega]

end Go.Proofs.Ytldljohholgmoaa
