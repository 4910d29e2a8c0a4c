/-
  From the condition on the listed table (it reads as its initialiser lays it) to what the walks ask of memory; and that the program's own start meets that condition. No conditions beside.
-/
import Derived.Test.YtlhipaecndgonaaDoorAsmKz
namespace Go.Proofs.YtlhipaecndgonaaDoor
open Go.ChangeShapes Go.WideShapes Go.ChangeAt Go.RowKit

theorem own : ownKnob Tryd.prog.godebug = none := by kernel_rfl
theorem laidOut : laidOutB Tryd.prog = true := by kernel_rfl

/-- the list of one: the table. -/
def laid1 : List (String × DataW Unit) := [("foreman/asm.kinds", Rows.laid_foreman_asm_kinds)]

theorem door_met (os : Os) (args : Array Value) : laidMetH Tryd.prog laid1 ((World.doorLaid Tryd.prog 31 os).forCall (fun _ _ => 0) ⟨#[], args, []⟩).memory :=
  laidMetH_of_parts3 (fuel := 8) (laidMet_of_run' 8 (by kernel_rfl) (by kernel_rfl)) (by kernel_rfl) (by kernel_rfl)

theorem of_laid {W : World} (h : laidMetH Tryd.prog laid1 W) : HasKinds W := by
  rw [MakeChecks.laidMetH_plain _ _ _ (by kernel_rfl)] at h
  obtain ⟨ps, ⟨g4, t4, cs4, f4, p4, q4, hg4, ht4, hv4, hd4, -, -⟩, -⟩ := h
  obtain rfl := Option.some.inj (gKinds.symm.trans hg4)
  obtain rfl := Option.some.inj (tKinds.symm.trans ht4)
  exact kinds_of (fun o => World.var?_cell gKinds hv4 o) hd4

end Go.Proofs.YtlhipaecndgonaaDoor
