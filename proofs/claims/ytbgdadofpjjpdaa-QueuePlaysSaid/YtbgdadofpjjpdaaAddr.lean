/-
  An address that has a cell is a plain one, in memory that is there. No conditions.
-/
import Derived.Test.YtbgdadofpjjpdaaRows
import Derived.Deep.Slices
namespace Go.Proofs.Ytbgdadofpjjpdaa

theorem addr_plain {w : World} {a : Addr} {v : Value} (h : w.cell? (a.add 0) = some v) : ∃ b off, a = ⟨b, off, none⟩ ∧ b < w.heap.size := by
  have e : a.add 0 = a := rfl
  rw [e] at h
  obtain ⟨b, off, spot⟩ := a
  obtain rfl : spot = none := World.cell?_spot h
  refine ⟨b, off, rfl, ?_⟩
  rcases Nat.lt_or_ge b w.heap.size with hlt | hge
  · exact hlt
  · simp [World.cell?, Array.getElem?_eq_none hge] at h

end Go.Proofs.Ytbgdadofpjjpdaa
