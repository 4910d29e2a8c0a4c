/-
  No cell of these rows narrows 'for every input' (looked for: loops, veiled, ifaces, maps, wideKeys, modest, calm, conditions, laid).
  DERIVED. THE GIVEN ROWS OF THIS SEAT. 6 by the template 'for every input the law returns true; each argument reads behind the call as it read before'; 0 by the template 'total and deterministic' (their statements: YtehaknnoplcbcaaTotals.lean).
  GIVEN WITH THE SEED: the statements are not yours to turn. If you find one false, say at which input.
  Laid BY PROGRAM, IN A SANDBOX (cutbox-rows.mjs): the forced cells as the released guide's own fill.sh prints them over the translation 882f651dc88ad328… (all of the seat's roots in one cut). By AI agents, Wed Nov 11 2026. No macro, syntax, notation, axiom, sorry.
-/
import Derived.Test.YtehaknnoplcbcaaChecked
import GoSem.Claim
import GoSem.ClaimJoined
import GoSem.ClaimMapViews
import Derived.JoinedTies
import Derived.KernelRfl
namespace Go.Proofs.Ytehaknnoplcbcaa
/- THE CELL 'sum', in the pinned program and in every row, IS THE sha256 OF THE DUMP (.gsa) THAT YtehaknnoplcbcaaProg.lean LOADS. Nothing in Lean hashes anything: it is a label: what it is worth is what the hold of that sum in a sandbox is worth. -/
noncomputable def Try.pinned : Pinned := { name := "ytehaknnoplcbcaa", sum := "882f651dc88ad328c91de9c019577e85e94f32e756cb0dd1cb8f19b3d69b7c4f", checked := Try.checked }
namespace Rows
def none {H : Type} : Left H := { results := [], args := [] }

/-- 'foremanlaw10.MachineSteps': WHATEVER THE INPUT: true; the input reads as it did. -/
def machineStepsSpec : ChangeSpec := { name := "machineSteps", fn := fun _ => fun
  | [d1, d2, d3] => { results := [.lit (.bool true)], args := [d1, d2, d3] }
  | _ => none }
def machineStepsRow : OpenClaim := { program := "ytehaknnoplcbcaa", sum := "882f651dc88ad328c91de9c019577e85e94f32e756cb0dd1cb8f19b3d69b7c4f", func := "foreman/foremanlaw10.MachineSteps", spec := "machineSteps", apart := false }
def MachineStepsSaid : Prop := machineStepsRow.holds Try.pinned (OpenSpec.ofChange machineStepsSpec)

/-- ITS FALSE NEIGHBOUR: 'it returns false'. Refute it at one input. -/
def machineStepsWrong : ChangeSpec := { name := "machineSteps", fn := fun _ => fun
  | [d1, d2, d3] => { results := [.lit (.bool false)], args := [d1, d2, d3] }
  | _ => none }
def MachineStepsWrongFalsely : Prop := machineStepsRow.holds Try.pinned (OpenSpec.ofChange machineStepsWrong)

/-- 'foremanlaw10.MachineEnds': WHATEVER THE INPUT: true; the input reads as it did. -/
def machineEndsSpec : ChangeSpec := { name := "machineEnds", fn := fun _ => fun
  | [d1, d2] => { results := [.lit (.bool true)], args := [d1, d2] }
  | _ => none }
def machineEndsRow : OpenClaim := { program := "ytehaknnoplcbcaa", sum := "882f651dc88ad328c91de9c019577e85e94f32e756cb0dd1cb8f19b3d69b7c4f", func := "foreman/foremanlaw10.MachineEnds", spec := "machineEnds", apart := false }
def MachineEndsSaid : Prop := machineEndsRow.holds Try.pinned (OpenSpec.ofChange machineEndsSpec)

/-- ITS FALSE NEIGHBOUR: 'it returns false'. Refute it at one input. -/
def machineEndsWrong : ChangeSpec := { name := "machineEnds", fn := fun _ => fun
  | [d1, d2] => { results := [.lit (.bool false)], args := [d1, d2] }
  | _ => none }
def MachineEndsWrongFalsely : Prop := machineEndsRow.holds Try.pinned (OpenSpec.ofChange machineEndsWrong)

/-- 'foremanlaw10.MachineFuel': WHATEVER THE INPUT: true; the input reads as it did. -/
def machineFuelSpec : ChangeSpec := { name := "machineFuel", fn := fun _ => fun
  | [d1, d2, d3] => { results := [.lit (.bool true)], args := [d1, d2, d3] }
  | _ => none }
def machineFuelRow : OpenClaim := { program := "ytehaknnoplcbcaa", sum := "882f651dc88ad328c91de9c019577e85e94f32e756cb0dd1cb8f19b3d69b7c4f", func := "foreman/foremanlaw10.MachineFuel", spec := "machineFuel", apart := false }
def MachineFuelSaid : Prop := machineFuelRow.holds Try.pinned (OpenSpec.ofChange machineFuelSpec)

/-- ITS FALSE NEIGHBOUR: 'it returns false'. Refute it at one input. -/
def machineFuelWrong : ChangeSpec := { name := "machineFuel", fn := fun _ => fun
  | [d1, d2, d3] => { results := [.lit (.bool false)], args := [d1, d2, d3] }
  | _ => none }
def MachineFuelWrongFalsely : Prop := machineFuelRow.holds Try.pinned (OpenSpec.ofChange machineFuelWrong)

/-- 'foremanlaw10.MachineTwos': WHATEVER THE INPUT: true; the input reads as it did. -/
def machineTwosSpec : ChangeSpec := { name := "machineTwos", fn := fun _ => fun
  | [d1, d2, d3] => { results := [.lit (.bool true)], args := [d1, d2, d3] }
  | _ => none }
def machineTwosRow : OpenClaim := { program := "ytehaknnoplcbcaa", sum := "882f651dc88ad328c91de9c019577e85e94f32e756cb0dd1cb8f19b3d69b7c4f", func := "foreman/foremanlaw10.MachineTwos", spec := "machineTwos", apart := false }
def MachineTwosSaid : Prop := machineTwosRow.holds Try.pinned (OpenSpec.ofChange machineTwosSpec)

/-- ITS FALSE NEIGHBOUR: 'it returns false'. Refute it at one input. -/
def machineTwosWrong : ChangeSpec := { name := "machineTwos", fn := fun _ => fun
  | [d1, d2, d3] => { results := [.lit (.bool false)], args := [d1, d2, d3] }
  | _ => none }
def MachineTwosWrongFalsely : Prop := machineTwosRow.holds Try.pinned (OpenSpec.ofChange machineTwosWrong)

/-- 'foremanlaw10.MachineTurns': WHATEVER THE INPUT: true; the input reads as it did. -/
def machineTurnsSpec : ChangeSpec := { name := "machineTurns", fn := fun _ => fun
  | [d1, d2] => { results := [.lit (.bool true)], args := [d1, d2] }
  | _ => none }
def machineTurnsRow : OpenClaim := { program := "ytehaknnoplcbcaa", sum := "882f651dc88ad328c91de9c019577e85e94f32e756cb0dd1cb8f19b3d69b7c4f", func := "foreman/foremanlaw10.MachineTurns", spec := "machineTurns", apart := false }
def MachineTurnsSaid : Prop := machineTurnsRow.holds Try.pinned (OpenSpec.ofChange machineTurnsSpec)

/-- ITS FALSE NEIGHBOUR: 'it returns false'. Refute it at one input. -/
def machineTurnsWrong : ChangeSpec := { name := "machineTurns", fn := fun _ => fun
  | [d1, d2] => { results := [.lit (.bool false)], args := [d1, d2] }
  | _ => none }
def MachineTurnsWrongFalsely : Prop := machineTurnsRow.holds Try.pinned (OpenSpec.ofChange machineTurnsWrong)

/-- 'foremanlaw10.MachineKeeps': WHATEVER THE INPUT: true; the input reads as it did. -/
def machineKeepsSpec : ChangeSpec := { name := "machineKeeps", fn := fun _ => fun
  | [d1, d2, d3] => { results := [.lit (.bool true)], args := [d1, d2, d3] }
  | _ => none }
def machineKeepsRow : OpenClaim := { program := "ytehaknnoplcbcaa", sum := "882f651dc88ad328c91de9c019577e85e94f32e756cb0dd1cb8f19b3d69b7c4f", func := "foreman/foremanlaw10.MachineKeeps", spec := "machineKeeps", apart := false }
def MachineKeepsSaid : Prop := machineKeepsRow.holds Try.pinned (OpenSpec.ofChange machineKeepsSpec)

/-- ITS FALSE NEIGHBOUR: 'it returns false'. Refute it at one input. -/
def machineKeepsWrong : ChangeSpec := { name := "machineKeeps", fn := fun _ => fun
  | [d1, d2, d3] => { results := [.lit (.bool false)], args := [d1, d2, d3] }
  | _ => none }
def MachineKeepsWrongFalsely : Prop := machineKeepsRow.holds Try.pinned (OpenSpec.ofChange machineKeepsWrong)

/- THE SECOND FORM. 'bulk': how many values and letters a reading holds, each counted each time it is reached (what is shared counts as often as it is met; a slice's spare places count too). A statement '..UptoSaid' is the law's where the arguments, and the package variables that the reading takes, are together of bulk at most 1048576: NARROWER than '..Said'. Prove '..Said' where nothing that the law and all that it calls make is longer than what came in: it says more and counts as full. Else prove '..UptoSaid'. A law counts once. -/
mutual
def uptoBulk {H : Type} : DataW H → Nat
  | .lit (.string bytes) => bytes.length + 1
  | .lit _ => 1
  | .nil => 1
  | .ptr d => uptoBulk d + 1
  | .slice elems spare => uptoBulkAll elems + uptoBulkAll spare + 1
  | .agg parts => uptoBulkAll parts + 1
  | .iface _ d => uptoBulk d + 1
  | .map entries => uptoBulkEntries entries + 1
  | .held _ => 1
def uptoBulkAll {H : Type} : List (DataW H) → Nat
  | [] => 0
  | d :: r => uptoBulk d + uptoBulkAll r
def uptoBulkEntries {H : Type} : List (Lit × DataW H) → Nat
  | [] => 0
  | x :: r => uptoBulkEntry x + uptoBulkEntries r
def uptoBulkEntry {H : Type} : Lit × DataW H → Nat
  | (.string bytes, d) => bytes.length + uptoBulk d + 1
  | (_, d) => uptoBulk d + 1
 end
def uptoSmall : (H : Type) → List (DataW H) → Bool := fun _ ds => decide (uptoBulkAll ds ≤ 1048576)
def OpenSpec.upto (s : _root_.Go.ChangeSpec) : _root_.Go.OpenSpec := { _root_.Go.OpenSpec.ofChange s with cond := some uptoSmall }

/-- 'foremanlaw10.MachineSteps', WHERE WHAT IT READS IS OF BULK AT MOST 1048576: true; the input reads as it did. -/
def machineStepsUptoRow : OpenClaim := { program := "ytehaknnoplcbcaa", sum := "882f651dc88ad328c91de9c019577e85e94f32e756cb0dd1cb8f19b3d69b7c4f", func := "foreman/foremanlaw10.MachineSteps", spec := "machineSteps", apart := false, narrowed := true }
def MachineStepsUptoSaid : Prop := machineStepsUptoRow.holds Try.pinned (OpenSpec.upto machineStepsSpec)

/-- 'foremanlaw10.MachineEnds', WHERE WHAT IT READS IS OF BULK AT MOST 1048576: true; the input reads as it did. -/
def machineEndsUptoRow : OpenClaim := { program := "ytehaknnoplcbcaa", sum := "882f651dc88ad328c91de9c019577e85e94f32e756cb0dd1cb8f19b3d69b7c4f", func := "foreman/foremanlaw10.MachineEnds", spec := "machineEnds", apart := false, narrowed := true }
def MachineEndsUptoSaid : Prop := machineEndsUptoRow.holds Try.pinned (OpenSpec.upto machineEndsSpec)

/-- 'foremanlaw10.MachineFuel', WHERE WHAT IT READS IS OF BULK AT MOST 1048576: true; the input reads as it did. -/
def machineFuelUptoRow : OpenClaim := { program := "ytehaknnoplcbcaa", sum := "882f651dc88ad328c91de9c019577e85e94f32e756cb0dd1cb8f19b3d69b7c4f", func := "foreman/foremanlaw10.MachineFuel", spec := "machineFuel", apart := false, narrowed := true }
def MachineFuelUptoSaid : Prop := machineFuelUptoRow.holds Try.pinned (OpenSpec.upto machineFuelSpec)

/-- 'foremanlaw10.MachineTwos', WHERE WHAT IT READS IS OF BULK AT MOST 1048576: true; the input reads as it did. -/
def machineTwosUptoRow : OpenClaim := { program := "ytehaknnoplcbcaa", sum := "882f651dc88ad328c91de9c019577e85e94f32e756cb0dd1cb8f19b3d69b7c4f", func := "foreman/foremanlaw10.MachineTwos", spec := "machineTwos", apart := false, narrowed := true }
def MachineTwosUptoSaid : Prop := machineTwosUptoRow.holds Try.pinned (OpenSpec.upto machineTwosSpec)

/-- 'foremanlaw10.MachineTurns', WHERE WHAT IT READS IS OF BULK AT MOST 1048576: true; the input reads as it did. -/
def machineTurnsUptoRow : OpenClaim := { program := "ytehaknnoplcbcaa", sum := "882f651dc88ad328c91de9c019577e85e94f32e756cb0dd1cb8f19b3d69b7c4f", func := "foreman/foremanlaw10.MachineTurns", spec := "machineTurns", apart := false, narrowed := true }
def MachineTurnsUptoSaid : Prop := machineTurnsUptoRow.holds Try.pinned (OpenSpec.upto machineTurnsSpec)

/-- 'foremanlaw10.MachineKeeps', WHERE WHAT IT READS IS OF BULK AT MOST 1048576: true; the input reads as it did. -/
def machineKeepsUptoRow : OpenClaim := { program := "ytehaknnoplcbcaa", sum := "882f651dc88ad328c91de9c019577e85e94f32e756cb0dd1cb8f19b3d69b7c4f", func := "foreman/foremanlaw10.MachineKeeps", spec := "machineKeeps", apart := false, narrowed := true }
def MachineKeepsUptoSaid : Prop := machineKeepsUptoRow.holds Try.pinned (OpenSpec.upto machineKeepsSpec)

end Rows
end Go.Proofs.Ytehaknnoplcbcaa
