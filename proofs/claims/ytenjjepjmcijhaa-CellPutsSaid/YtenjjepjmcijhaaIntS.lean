/-
  A slice of ints in memory. It names no function of the program. No conditions.
-/
import Derived.Test.YtenjjepjmcijhaaWords
namespace Go.Proofs.Ytenjjepjmcijhaa
open Go.RowKit

/-- a slice of ints. -/
def Ints (w : World) (A : Option Addr) (c : Nat) (l : List Int) : Prop := Sl w 1 A l.length c (l.map (.int .i64))

theorem Ints.cellAt {w : World} {A : Option Addr} {c : Nat} {l : List Int} (h : Ints w A c l) {j : Nat} (hj : j < l.length) :
    ∃ b off, A = some ⟨b, off, none⟩ ∧ b < w.heap.size ∧ w.cell? ⟨b, off + j, none⟩ = some (.int .i64 (l[j]?.getD 0)) := by
  obtain ⟨b, off, rfl, hb, hc⟩ := h.2.2.2 (by omega)
  refine ⟨b, off, rfl, hb, ?_⟩
  rw [hc j (by omega)]
  simp [hj]

end Go.Proofs.Ytenjjepjmcijhaa
