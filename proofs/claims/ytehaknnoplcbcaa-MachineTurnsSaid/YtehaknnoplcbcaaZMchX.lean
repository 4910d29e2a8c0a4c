/-
  Plain facts of layer 10's laws: the examples' machines, step by step. No conditions.
-/
import Derived.Test.YtehaknnoplcbcaaZMchW
import Derived.Test.YtehaknnoplcbcaaZMchS
import Derived.Test.YtehaknnoplcbcaaZInsN
namespace Go.Proofs.Ytehaknnoplcbcaa
open Go.RowKit

def z8 : List Int := [0, 0, 0, 0, 0, 0, 0, 0]
def codeA : List Ins := [⟨6, 0, 0⟩, ⟨5, 0, 1⟩, ⟨17, 0, 0⟩]
def codeZ : List Ins := [⟨1, 1, 0⟩, ⟨1, 0, 0⟩, ⟨10, 0, 0⟩, ⟨15, 0, 0⟩, ⟨17, 0, 0⟩]
def cmdA : Cmd := ⟨[], [0], [7], 3, codeA⟩
def cmdZ : Cmd := ⟨[], [], [], 5, codeZ⟩

theorem fitA0 : Fit cmdA ⟨0, 3, [], [0, 0, 0, 0], [], false, 0⟩ [z8] := ⟨by decide, by decide, by decide, by decide, by decide, by decide, fun _ _ => ⟨by decide, by decide, by decide, ⟨by decide, by decide, by decide, by decide, by decide, by decide⟩⟩⟩
theorem fitA1 : Fit cmdA ⟨1, 2, [7], [0, 0, 0, 0], [], false, 0⟩ [z8] := ⟨by decide, by decide, by decide, by decide, by decide, by decide, fun _ _ => ⟨by decide, by decide, by decide, ⟨by decide, by decide, by decide, by decide, by decide, by decide⟩⟩⟩
theorem fitA2 : Fit cmdA ⟨2, 1, [], [0, 0, 0, 0], [], false, 0⟩ [[0, 7, 0, 0, 0, 0, 0, 0]] := ⟨by decide, by decide, by decide, by decide, by decide, by decide, fun _ _ => ⟨by decide, by decide, by decide, ⟨by decide, by decide, by decide, by decide, by decide, by decide⟩⟩⟩
theorem fitA3 : Fit cmdA ⟨3, 0, [], [0, 0, 0, 0], [], true, 0⟩ [[0, 7, 0, 0, 0, 0, 0, 0]] := ⟨by decide, by decide, by decide, by decide, by decide, by decide, fun h _ => by cases h⟩
theorem stA0 : stepM cmdA ⟨0, 3, [], [0, 0, 0, 0], [], false, 0⟩ [z8] = (⟨1, 2, [7], [0, 0, 0, 0], [], false, 0⟩, [z8]) := by kernel_rfl
theorem stA1 : stepM cmdA ⟨1, 2, [7], [0, 0, 0, 0], [], false, 0⟩ [z8] = (⟨2, 1, [], [0, 0, 0, 0], [], false, 0⟩, [[0, 7, 0, 0, 0, 0, 0, 0]]) := by kernel_rfl
theorem stA2 : stepM cmdA ⟨2, 1, [], [0, 0, 0, 0], [], false, 0⟩ [[0, 7, 0, 0, 0, 0, 0, 0]] = (⟨3, 0, [], [0, 0, 0, 0], [], true, 0⟩, [[0, 7, 0, 0, 0, 0, 0, 0]]) := by kernel_rfl
theorem stA3 : stepM cmdA ⟨3, 0, [], [0, 0, 0, 0], [], true, 0⟩ [[0, 7, 0, 0, 0, 0, 0, 0]] = (⟨3, 0, [], [0, 0, 0, 0], [], true, 0⟩, [[0, 7, 0, 0, 0, 0, 0, 0]]) := by kernel_rfl

theorem stepsZ1 : stepsM cmdZ 1 (newM cmdZ, []) = (⟨1, 4, [1], [0, 0, 0, 0], [], false, 0⟩, []) := by kernel_rfl
theorem stepsZ2 : stepsM cmdZ 2 (newM cmdZ, []) = (⟨2, 3, [1, 0], [0, 0, 0, 0], [], false, 0⟩, []) := by kernel_rfl
theorem stepsZ3 : stepsM cmdZ 3 (newM cmdZ, []) = (⟨3, 2, [1, 0], [0, 0, 0, 0], [], true, 12⟩, []) := by kernel_rfl
theorem fitZ : ∀ k, k < 3 → Fit cmdZ (stepsM cmdZ k (newM cmdZ, [])).1 [] := by
  intro k hk
  rcases (show k = 0 ∨ k = 1 ∨ k = 2 by omega) with rfl | rfl | rfl
  · exact ⟨by decide, by decide, by decide, by decide, by decide, by decide, fun _ _ => ⟨by decide, by decide, by decide, ⟨by decide, by decide, by decide, by decide, by decide, by decide⟩⟩⟩
  · rw [stepsZ1]
    exact ⟨by decide, by decide, by decide, by decide, by decide, by decide, fun _ _ => ⟨by decide, by decide, by decide, ⟨by decide, by decide, by decide, by decide, by decide, by decide⟩⟩⟩
  · rw [stepsZ2]
    exact ⟨by decide, by decide, by decide, by decide, by decide, by decide, fun _ _ => ⟨by decide, by decide, by decide, ⟨by decide, by decide, by decide, by decide, by decide, by decide⟩⟩⟩

theorem stepsZ_own : ∀ k, k < 3 → (stepsM cmdZ k (newM cmdZ, [])).2 = [] := by
  intro k hk
  rcases (show k = 0 ∨ k = 1 ∨ k = 2 by omega) with rfl | rfl | rfl
  · rfl
  · rw [stepsZ1]
  · rw [stepsZ2]

end Go.Proofs.Ytehaknnoplcbcaa
