/-
  A slice of ints in memory. It names no function of the program. No conditions.
-/
import Derived.Test.YtldljohholgmoaaZWords
namespace Go.Proofs.Ytldljohholgmoaa
open Go.RowKit

/-- a slice of ints. -/
def Ints (w : World) (A : Option Addr) (c : Nat) (l : List Int) : Prop := Sl w 1 A l.length c (l.map (.int .i64))

theorem Ints.cellAt {w : World} {A : Option Addr} {c : Nat} {l : List Int} (h : Ints w A c l) {j : Nat} (hj : j < l.length) :
    ∃ b off, A = some ⟨b, off, none⟩ ∧ b < w.heap.size ∧ w.cell? ⟨b, off + j, none⟩ = some (.int .i64 (l[j]?.getD 0)) := by
  obtain ⟨b, off, rfl, hb, hc⟩ := h.2.2.2 (by omega)
  refine ⟨b, off, rfl, hb, ?_⟩
  rw [hc j (by omega)]
  simp [hj]

theorem Ints.below {w w' : World} {A : Option Addr} {c : Nat} {l : List Int} (h : Ints w A c l) (hb : Below w.heap.size w w') : Ints w' A c l := Sl.below h hb

theorem ints_new (l : List Int) (w : World) : Ints (w.alloc (.cells (l.map (.int .i64)).toArray 3)) (some ⟨w.heap.size, 0, none⟩) l.length l := by
  have hk := Bk.new w 3 (l.map (.int .i64)).toArray
  refine ⟨by simp, Nat.le_refl _, fun h => (by cases h), fun _ => ⟨_, _, rfl, hk.lt, fun j _ => ?_⟩⟩
  rw [hk.cell]
  simp

end Go.Proofs.Ytldljohholgmoaa
