/-
  Depths in memory: their cells; how far they go. No conditions but those that stand there.
-/
import Derived.Test.YtldljohholgmoaaQStr
import Derived.Test.YtldljohholgmoaaZWords
namespace Go.Proofs.Ytldljohholgmoaa
open Go.RowKit

/-- depths as cells. -/
def dV (d : List Int) : Array Value := (d.map (.int .i64)).toArray
theorem dV_at {d : List Int} {i : Nat} (h : i < d.length) : (dV d)[i]? = some (.int .i64 (dAt d i)) := by simp [dV, dAt, h]
theorem dV_set (d : List Int) (i : Nat) (v : Int) : (dV d).setIfInBounds i (.int .i64 v) = dV (d.set i v) := by
  apply Array.ext'
  simp [dV, List.map_set]

theorem bk_dV {w : World} {g : Nat} {d : List Int} (h : Bk w g 3 (dV d)) {i : Nat} (hi : i < d.length) : w.cell? ⟨g, i, none⟩ = some (.int .i64 (dAt d i)) := (h.cell i).trans (dV_at hi)

theorem wayD_bounds {len i : Nat} {v : Int} (hv : 0 ≤ v ∧ v ≤ 8) : ∀ (ws : List Int) (d d' : List Int), d.length = len → wayD len i v ws d = .ok d' → (∀ j, -1 ≤ dAt d j ∧ dAt d j ≤ 8) → ∀ j, -1 ≤ dAt d' j ∧ dAt d' j ≤ 8
  | [], d, d', _, h, hb => by
    simp only [wayD, Except.ok.injEq] at h
    subst h
    exact hb
  | w :: ws, d, d', hl, h, hb => by
    rw [wayD] at h
    split at h
    · cases h
    · split at h
      · cases h
      · rename_i h1 h2
        refine wayD_bounds hv ws _ d' (by simp [hl]) h (fun j => ?_)
        by_cases e : i + 1 + w.toNat = j
        · subst e; rw [dAt_set_same (by omega)]; omega
        · rw [dAt_set_ne e]; exact hb j

theorem insD_bounds {l : List Ins} {i : Nat} {d d' : List Int} (hl : d.length = l.length) (h : insD l i d = .ok d') (hb : ∀ j, -1 ≤ dAt d j ∧ dAt d j ≤ 8) : ∀ j, -1 ≤ dAt d' j ∧ dAt d' j ≤ 8 := by
  rw [insD] at h
  split at h
  · simp only [Except.ok.injEq] at h
    subst h
    exact hb
  · split at h
    · cases h
    · rename_i h0 h1
      exact wayD_bounds (by omega) _ _ _ hl h hb

theorem startD0_bounds (n : Nat) : ∀ j, -1 ≤ dAt (startD0 n) j ∧ dAt (startD0 n) j ≤ 8 := by
  intro j
  by_cases hj : j < n
  · rw [startD0_at hj]; split <;> omega
  · rw [dAt, List.getElem?_eq_none (by rw [startD0_length]; omega)]; decide

/-- what Depths answers. -/
def DepthsPost (t : TypeId) (N : Nat) (w : World) (R : Except Nat (List Int)) (e : Ending) (w' : World) : Prop :=
  match R with
  | .error z => e = .returned (.tuple #[.slice none 0 0, .int .i64 (z : Nat)]) ∧ Below w.heap.size w w'
  | .ok d => ∃ g, w.heap.size ≤ g ∧ e = .returned (.tuple #[.slice (some ⟨g, 0, none⟩) N N, .int .i64 0]) ∧ Bk w' g t (dV d) ∧ Below w.heap.size w w'

end Go.Proofs.Ytldljohholgmoaa
