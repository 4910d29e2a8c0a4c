/-
  NARROWER THAN 'FOR EVERY INPUT', by the rows' own cells (each row's printed sentence says how): CheckOf: laid · CheckParts: laid · CheckTurns: laid · CheckSteps: laid · CheckSums: laid.
  DERIVED. THE GIVEN ROWS OF THIS SEAT. 5 by the template 'for every input the law returns true; each argument reads behind the call as it read before'; 0 by the template 'total and deterministic' (their statements: YtmjfbhpbgppkfaaDoorTotals.lean).
  GIVEN WITH THE SEED: the statements are not yours to turn. If you find one false, say at which input.
  Laid BY PROGRAM, IN A SANDBOX (cutbox-rows.mjs): the forced cells as the released guide's own fill.sh prints them over the translation ec32239b0adde683… (all of the seat's roots in one cut). By AI agents, Wed Nov 11 2026. No macro, syntax, notation, axiom, sorry.
-/
import Derived.Test.YtmjfbhpbgppkfaaDoorChecked
import GoSem.Claim
import GoSem.ClaimJoined
import GoSem.ClaimMapViews
import Derived.JoinedTies
import Derived.KernelRfl
namespace Go.Proofs.YtmjfbhpbgppkfaaDoor
/- THE CELL 'sum', in the pinned program and in every row, IS THE sha256 OF THE DUMP (.gsa) THAT YtmjfbhpbgppkfaaDoorProg.lean LOADS. Nothing in Lean hashes anything: it is a label: what it is worth is what the hold of that sum in a sandbox is worth. -/
noncomputable def Tryd.pinned : Pinned := { name := "ytmjfbhpbgppkfaadoor", sum := "ec32239b0adde683ef8f6b9555d703491a50e8c6fab59f0a6c2a630e79afa715", checked := Tryd.checked }
namespace Rows
def none {H : Type} : Left H := { results := [], args := [] }

/- WHAT THE LISTED PACKAGE-LEVEL VARIABLES READ AS WHEN THE CALL BEGINS. Each datum BY PROGRAM (the guide's laid-datum.mjs) off the statement by which the dump's own 'gosem.cut.vars' lays the variable. In a bare row this is a premise. The card (YtmjfbhpbgppkfaaDoorCards.lean) ties it to the program's text. -/
def laid_foreman_check_halves {H : Type} : DataW H := .agg [.lit (.int .u32 0), .lit (.int .u32 498536548), .lit (.int .u32 997073096), .lit (.int .u32 651767980), .lit (.int .u32 1994146192), .lit (.int .u32 1802195444), .lit (.int .u32 1303535960), .lit (.int .u32 1342533948), .lit (.int .u32 3988292384), .lit (.int .u32 4027552580), .lit (.int .u32 3604390888), .lit (.int .u32 3412177804), .lit (.int .u32 2607071920), .lit (.int .u32 2262029012), .lit (.int .u32 2685067896), .lit (.int .u32 3183342108)]

/-- 'foremanlaw02.CheckOf': WHATEVER THE INPUT: true; the input reads as it did. -/
def checkOfSpec : ChangeSpec := { name := "checkOf", fn := fun _ => fun
  | [d1, d2] => { results := [.lit (.bool true)], args := [d1, d2] }
  | _ => none }
def checkOfRow : OpenClaim := { program := "ytmjfbhpbgppkfaadoor", sum := "ec32239b0adde683ef8f6b9555d703491a50e8c6fab59f0a6c2a630e79afa715", func := "foreman/foremanlaw02.CheckOf", spec := "checkOf", named := ["foreman/check.halves"], apart := false, laid := [("foreman/check.halves", laid_foreman_check_halves)] }
def CheckOfSaid : Prop := checkOfRow.holds Tryd.pinned (OpenSpec.ofChange checkOfSpec)

/-- ITS FALSE NEIGHBOUR: 'it returns false'. Refute it at one input. -/
def checkOfWrong : ChangeSpec := { name := "checkOf", fn := fun _ => fun
  | [d1, d2] => { results := [.lit (.bool false)], args := [d1, d2] }
  | _ => none }
def CheckOfWrongFalsely : Prop := checkOfRow.holds Tryd.pinned (OpenSpec.ofChange checkOfWrong)

/-- 'foremanlaw02.CheckParts': WHATEVER THE INPUT: true; the input reads as it did. -/
def checkPartsSpec : ChangeSpec := { name := "checkParts", fn := fun _ => fun
  | [d1, d2] => { results := [.lit (.bool true)], args := [d1, d2] }
  | _ => none }
def checkPartsRow : OpenClaim := { program := "ytmjfbhpbgppkfaadoor", sum := "ec32239b0adde683ef8f6b9555d703491a50e8c6fab59f0a6c2a630e79afa715", func := "foreman/foremanlaw02.CheckParts", spec := "checkParts", named := ["foreman/check.halves"], apart := false, laid := [("foreman/check.halves", laid_foreman_check_halves)] }
def CheckPartsSaid : Prop := checkPartsRow.holds Tryd.pinned (OpenSpec.ofChange checkPartsSpec)

/-- ITS FALSE NEIGHBOUR: 'it returns false'. Refute it at one input. -/
def checkPartsWrong : ChangeSpec := { name := "checkParts", fn := fun _ => fun
  | [d1, d2] => { results := [.lit (.bool false)], args := [d1, d2] }
  | _ => none }
def CheckPartsWrongFalsely : Prop := checkPartsRow.holds Tryd.pinned (OpenSpec.ofChange checkPartsWrong)

/-- 'foremanlaw02.CheckTurns': WHATEVER THE INPUT: true; the input reads as it did. -/
def checkTurnsSpec : ChangeSpec := { name := "checkTurns", fn := fun _ => fun
  | [d1, d2, d3] => { results := [.lit (.bool true)], args := [d1, d2, d3] }
  | _ => none }
def checkTurnsRow : OpenClaim := { program := "ytmjfbhpbgppkfaadoor", sum := "ec32239b0adde683ef8f6b9555d703491a50e8c6fab59f0a6c2a630e79afa715", func := "foreman/foremanlaw02.CheckTurns", spec := "checkTurns", named := ["foreman/check.halves"], apart := false, laid := [("foreman/check.halves", laid_foreman_check_halves)] }
def CheckTurnsSaid : Prop := checkTurnsRow.holds Tryd.pinned (OpenSpec.ofChange checkTurnsSpec)

/-- ITS FALSE NEIGHBOUR: 'it returns false'. Refute it at one input. -/
def checkTurnsWrong : ChangeSpec := { name := "checkTurns", fn := fun _ => fun
  | [d1, d2, d3] => { results := [.lit (.bool false)], args := [d1, d2, d3] }
  | _ => none }
def CheckTurnsWrongFalsely : Prop := checkTurnsRow.holds Tryd.pinned (OpenSpec.ofChange checkTurnsWrong)

/-- 'foremanlaw02.CheckSteps': WHATEVER THE INPUT: true; the input reads as it did. -/
def checkStepsSpec : ChangeSpec := { name := "checkSteps", fn := fun _ => fun
  | [d] => { results := [.lit (.bool true)], args := [d] }
  | _ => none }
def checkStepsRow : OpenClaim := { program := "ytmjfbhpbgppkfaadoor", sum := "ec32239b0adde683ef8f6b9555d703491a50e8c6fab59f0a6c2a630e79afa715", func := "foreman/foremanlaw02.CheckSteps", spec := "checkSteps", named := ["foreman/check.halves"], apart := false, laid := [("foreman/check.halves", laid_foreman_check_halves)] }
def CheckStepsSaid : Prop := checkStepsRow.holds Tryd.pinned (OpenSpec.ofChange checkStepsSpec)

/-- ITS FALSE NEIGHBOUR: 'it returns false'. Refute it at one input. -/
def checkStepsWrong : ChangeSpec := { name := "checkSteps", fn := fun _ => fun
  | [d] => { results := [.lit (.bool false)], args := [d] }
  | _ => none }
def CheckStepsWrongFalsely : Prop := checkStepsRow.holds Tryd.pinned (OpenSpec.ofChange checkStepsWrong)

/-- 'foremanlaw02.CheckSums': WHATEVER THE INPUT: true; the input reads as it did. -/
def checkSumsSpec : ChangeSpec := { name := "checkSums", fn := fun _ => fun
  | [d1, d2] => { results := [.lit (.bool true)], args := [d1, d2] }
  | _ => none }
def checkSumsRow : OpenClaim := { program := "ytmjfbhpbgppkfaadoor", sum := "ec32239b0adde683ef8f6b9555d703491a50e8c6fab59f0a6c2a630e79afa715", func := "foreman/foremanlaw02.CheckSums", spec := "checkSums", named := ["foreman/check.halves"], apart := false, laid := [("foreman/check.halves", laid_foreman_check_halves)] }
def CheckSumsSaid : Prop := checkSumsRow.holds Tryd.pinned (OpenSpec.ofChange checkSumsSpec)

/-- ITS FALSE NEIGHBOUR: 'it returns false'. Refute it at one input. -/
def checkSumsWrong : ChangeSpec := { name := "checkSums", fn := fun _ => fun
  | [d1, d2] => { results := [.lit (.bool false)], args := [d1, d2] }
  | _ => none }
def CheckSumsWrongFalsely : Prop := checkSumsRow.holds Tryd.pinned (OpenSpec.ofChange checkSumsWrong)

/- THE SECOND FORM. 'bulk': how many values and letters a reading holds, each counted each time it is reached (what is shared counts as often as it is met; a slice's spare places count too). A statement '..UptoSaid' is the law's where the arguments, and the package variables that the reading takes, are together of bulk at most 1048576: NARROWER than '..Said'. Prove '..Said' where nothing that the law and all that it calls make is longer than what came in: it says more and counts as full. Else prove '..UptoSaid'. A law counts once. -/
mutual
def uptoBulk {H : Type} : DataW H → Nat
  | .lit (.string bytes) => bytes.length + 1
  | .lit _ => 1
  | .nil => 1
  | .ptr d => uptoBulk d + 1
  | .slice elems spare => uptoBulkAll elems + uptoBulkAll spare + 1
  | .agg parts => uptoBulkAll parts + 1
  | .iface _ d => uptoBulk d + 1
  | .map entries => uptoBulkEntries entries + 1
  | .held _ => 1
def uptoBulkAll {H : Type} : List (DataW H) → Nat
  | [] => 0
  | d :: r => uptoBulk d + uptoBulkAll r
def uptoBulkEntries {H : Type} : List (Lit × DataW H) → Nat
  | [] => 0
  | x :: r => uptoBulkEntry x + uptoBulkEntries r
def uptoBulkEntry {H : Type} : Lit × DataW H → Nat
  | (.string bytes, d) => bytes.length + uptoBulk d + 1
  | (_, d) => uptoBulk d + 1
 end
def uptoSmall : (H : Type) → List (DataW H) → Bool := fun _ ds => decide (uptoBulkAll ds ≤ 1048576)
def OpenSpec.upto (s : _root_.Go.ChangeSpec) : _root_.Go.OpenSpec := { _root_.Go.OpenSpec.ofChange s with cond := some uptoSmall }

/-- 'foremanlaw02.CheckOf', WHERE WHAT IT READS IS OF BULK AT MOST 1048576: true; the input reads as it did. -/
def checkOfUptoRow : OpenClaim := { program := "ytmjfbhpbgppkfaadoor", sum := "ec32239b0adde683ef8f6b9555d703491a50e8c6fab59f0a6c2a630e79afa715", func := "foreman/foremanlaw02.CheckOf", spec := "checkOf", named := ["foreman/check.halves"], apart := false, laid := [("foreman/check.halves", laid_foreman_check_halves)], narrowed := true }
def CheckOfUptoSaid : Prop := checkOfUptoRow.holds Tryd.pinned (OpenSpec.upto checkOfSpec)

/-- 'foremanlaw02.CheckParts', WHERE WHAT IT READS IS OF BULK AT MOST 1048576: true; the input reads as it did. -/
def checkPartsUptoRow : OpenClaim := { program := "ytmjfbhpbgppkfaadoor", sum := "ec32239b0adde683ef8f6b9555d703491a50e8c6fab59f0a6c2a630e79afa715", func := "foreman/foremanlaw02.CheckParts", spec := "checkParts", named := ["foreman/check.halves"], apart := false, laid := [("foreman/check.halves", laid_foreman_check_halves)], narrowed := true }
def CheckPartsUptoSaid : Prop := checkPartsUptoRow.holds Tryd.pinned (OpenSpec.upto checkPartsSpec)

/-- 'foremanlaw02.CheckTurns', WHERE WHAT IT READS IS OF BULK AT MOST 1048576: true; the input reads as it did. -/
def checkTurnsUptoRow : OpenClaim := { program := "ytmjfbhpbgppkfaadoor", sum := "ec32239b0adde683ef8f6b9555d703491a50e8c6fab59f0a6c2a630e79afa715", func := "foreman/foremanlaw02.CheckTurns", spec := "checkTurns", named := ["foreman/check.halves"], apart := false, laid := [("foreman/check.halves", laid_foreman_check_halves)], narrowed := true }
def CheckTurnsUptoSaid : Prop := checkTurnsUptoRow.holds Tryd.pinned (OpenSpec.upto checkTurnsSpec)

/-- 'foremanlaw02.CheckSteps', WHERE WHAT IT READS IS OF BULK AT MOST 1048576: true; the input reads as it did. -/
def checkStepsUptoRow : OpenClaim := { program := "ytmjfbhpbgppkfaadoor", sum := "ec32239b0adde683ef8f6b9555d703491a50e8c6fab59f0a6c2a630e79afa715", func := "foreman/foremanlaw02.CheckSteps", spec := "checkSteps", named := ["foreman/check.halves"], apart := false, laid := [("foreman/check.halves", laid_foreman_check_halves)], narrowed := true }
def CheckStepsUptoSaid : Prop := checkStepsUptoRow.holds Tryd.pinned (OpenSpec.upto checkStepsSpec)

/-- 'foremanlaw02.CheckSums', WHERE WHAT IT READS IS OF BULK AT MOST 1048576: true; the input reads as it did. -/
def checkSumsUptoRow : OpenClaim := { program := "ytmjfbhpbgppkfaadoor", sum := "ec32239b0adde683ef8f6b9555d703491a50e8c6fab59f0a6c2a630e79afa715", func := "foreman/foremanlaw02.CheckSums", spec := "checkSums", named := ["foreman/check.halves"], apart := false, laid := [("foreman/check.halves", laid_foreman_check_halves)], narrowed := true }
def CheckSumsUptoSaid : Prop := checkSumsUptoRow.holds Tryd.pinned (OpenSpec.upto checkSumsSpec)

end Rows
end Go.Proofs.YtmjfbhpbgppkfaaDoor
