/-
  A slice out of its cells, one by one. It names no function and no type of the program. No conditions but those that stand there.
-/
import Derived.Test.YtcffmkphfahapaaQAddr
import Derived.Test.YtcffmkphfahapaaZWords
namespace Go.Proofs.Ytcffmkphfahapaa
open Go.RowKit

theorem sl_of {w : World} {a : Addr} {n c : Nat} (f : Nat → Value) (hl : n ≤ c) (h : ∀ i, i < n → w.cell? (a.add i) = some (f i)) : Sl w 1 (some a) n c ((List.range n).map f) := by
  refine ⟨by simp, hl, fun h => by simp at h, fun hn => ?_⟩
  obtain ⟨b, off, rfl, hlt⟩ := addr_plain (h 0 hn)
  refine ⟨b, off, rfl, hlt, fun j hj => ?_⟩
  have := h j (by simpa using hj)
  rw [Addr.add_lit] at this
  rw [this]
  simp [show j < n by simpa using hj]

end Go.Proofs.Ytcffmkphfahapaa
