/-
  From the condition on the listed table (it reads as its initialiser lays it) to its cells; and that the program's own start meets that condition. No conditions beside.
-/
import Derived.Test.YtmjfbhpbgppkfaaDoorChkA
import Derived.Lib.LaidTab
import Derived.LaidMore
import Derived.ProofKit
import Derived.OpenShut
import Derived.Stop.Joined
namespace Go.Proofs.YtmjfbhpbgppkfaaDoor
open Go.ChangeShapes Go.WideShapes Go.ChangeAt Go.RowKit

theorem own : ownKnob Tryd.prog.godebug = none := by kernel_rfl
theorem laidOut : laidOutB Tryd.prog = true := by kernel_rfl
theorem gHalves : Tryd.prog.globalNamed "foreman/check.halves" = some 0 := by kernel_rfl
theorem tHalves : (Tryd.prog.globals[0]?).map (·.type) = some 34 := by kernel_rfl
theorem cHalves : Tryd.prog.cellsOf 34 = 16 := by kernel_rfl
theorem cU32 : Tryd.prog.cellsOf 22 = 1 := by kernel_rfl
theorem dHalves {H : Type} : (Rows.laid_foreman_check_halves : DataW H) = Lib.tabData .u32 (tabL.map fun n : Nat => (n : Int)) := rfl

/-- the list of one: the table. -/
def laid1 : List (String × DataW Unit) := [("foreman/check.halves", Rows.laid_foreman_check_halves)]

theorem door_met (os : Os) (args : Array Value) : laidMetH Tryd.prog laid1 ((World.doorLaid Tryd.prog 14 os).forCall (fun _ _ => 0) ⟨#[], args, []⟩).memory :=
  laidMetH_of_parts3 (fuel := 8) (laidMet_of_run' 8 (by kernel_rfl) (by kernel_rfl)) (by kernel_rfl) (by kernel_rfl)

theorem of_laid {W : World} (h : laidMetH Tryd.prog laid1 W) : HasTab W := by
  rw [MakeChecks.laidMetH_plain _ _ _ (by kernel_rfl)] at h
  have ht : Lib.TabIs Tryd.prog W "foreman/check.halves" .u32 (tabL.map fun n : Nat => (n : Int)) := by
    refine Lib.tabIs_of_head (rest := []) gHalves tHalves Tryd.underlying34 Tryd.underlying22 cU32 cHalves ?_
    rw [← dHalves]
    exact h
  have hc : ∀ i, i < 16 → W.cell? ⟨0, i, none⟩ = some (.int .u32 (tab i)) := by
    intro i hi
    have := World.var?_cell gHalves ht i
    rw [this]
    have hi' : i < tabL.length := hi
    simp [tab, List.getElem?_eq_getElem hi']
  exact ⟨block_lt_of_cell (hc 0 (by omega)), hc⟩

end Go.Proofs.YtmjfbhpbgppkfaaDoor
