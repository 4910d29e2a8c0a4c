/-
  NARROWER THAN 'FOR EVERY INPUT', by the rows' own cells (each row's printed sentence says how): InstrPrints: laid · InstrReads: laid · InstrBack: laid · InstrSizes: laid.
  DERIVED. THE GIVEN ROWS OF THIS SEAT. 4 by the template 'for every input the law returns true; each argument reads behind the call as it read before'; 0 by the template 'total and deterministic' (their statements: YtlffdaiideoijaaDoorTotals.lean).
  GIVEN WITH THE SEED: the statements are not yours to turn. If you find one false, say at which input.
  Laid BY PROGRAM, IN A SANDBOX (cutbox-rows.mjs): the forced cells as the released guide's own fill.sh prints them over the translation 38eceabff05fe5a1… (all of the seat's roots in one cut). By AI agents, Wed Nov 11 2026. No macro, syntax, notation, axiom, sorry.
-/
import Derived.Test.YtlffdaiideoijaaDoorChecked
import GoSem.Claim
import GoSem.ClaimJoined
import GoSem.ClaimMapViews
import Derived.JoinedTies
import Derived.KernelRfl
namespace Go.Proofs.YtlffdaiideoijaaDoor
/- THE CELL 'sum', in the pinned program and in every row, IS THE sha256 OF THE DUMP (.gsa) THAT YtlffdaiideoijaaDoorProg.lean LOADS. Nothing in Lean hashes anything: it is a label: what it is worth is what the hold of that sum in a sandbox is worth. -/
noncomputable def Tryd.pinned : Pinned := { name := "ytlffdaiideoijaadoor", sum := "38eceabff05fe5a1dd0129d5bd1c3bd582a886e291d87a6e6a1b0f7ac011c112", checked := Tryd.checked }
namespace Rows
def none {H : Type} : Left H := { results := [], args := [] }

/- WHAT THE LISTED PACKAGE-LEVEL VARIABLES READ AS WHEN THE CALL BEGINS. Each datum BY PROGRAM (the guide's laid-datum.mjs) off the statement by which the dump's own 'gosem.cut.vars' lays the variable. In a bare row this is a premise. The card (YtlffdaiideoijaaDoorCards.lean) ties it to the program's text. -/
def laid_foreman_asm_kinds {H : Type} : DataW H := .agg [.agg [.lit (.string []), .lit (.int .i64 0)], .agg [.lit (.string [112, 117, 115, 104]), .lit (.int .i64 1)], .agg [.lit (.string [108, 111, 97, 100]), .lit (.int .i64 1)], .agg [.lit (.string [107, 101, 101, 112]), .lit (.int .i64 1)], .agg [.lit (.string [103, 101, 116]), .lit (.int .i64 2)], .agg [.lit (.string [112, 117, 116]), .lit (.int .i64 2)], .agg [.lit (.string [97, 114, 103]), .lit (.int .i64 1)], .agg [.lit (.string [97, 100, 100]), .lit (.int .i64 0)], .agg [.lit (.string [115, 117, 98]), .lit (.int .i64 0)], .agg [.lit (.string [109, 117, 108]), .lit (.int .i64 0)], .agg [.lit (.string [100, 105, 118]), .lit (.int .i64 0)], .agg [.lit (.string [108, 101, 115, 115]), .lit (.int .i64 0)], .agg [.lit (.string [115, 97, 109, 101]), .lit (.int .i64 0)], .agg [.lit (.string [115, 107, 105, 112]), .lit (.int .i64 1)], .agg [.lit (.string [103, 111]), .lit (.int .i64 1)], .agg [.lit (.string [101, 109, 105, 116]), .lit (.int .i64 0)], .agg [.lit (.string [115, 116, 111, 112]), .lit (.int .i64 0)], .agg [.lit (.string [101, 110, 100]), .lit (.int .i64 0)]]

/-- 'foremanlaw06.InstrPrints': WHATEVER THE INPUT: true; the input reads as it did. -/
def instrPrintsSpec : ChangeSpec := { name := "instrPrints", fn := fun _ => fun
  | [d] => { results := [.lit (.bool true)], args := [d] }
  | _ => none }
def instrPrintsRow : OpenClaim := { program := "ytlffdaiideoijaadoor", sum := "38eceabff05fe5a1dd0129d5bd1c3bd582a886e291d87a6e6a1b0f7ac011c112", func := "foreman/foremanlaw06.InstrPrints", spec := "instrPrints", inPlace := ["internal/abi.NoEscape"], named := ["foreman/asm.kinds"], apart := false, laid := [("foreman/asm.kinds", laid_foreman_asm_kinds)] }
def InstrPrintsSaid : Prop := instrPrintsRow.holds Tryd.pinned (OpenSpec.ofChange instrPrintsSpec)

/-- ITS FALSE NEIGHBOUR: 'it returns false'. Refute it at one input. -/
def instrPrintsWrong : ChangeSpec := { name := "instrPrints", fn := fun _ => fun
  | [d] => { results := [.lit (.bool false)], args := [d] }
  | _ => none }
def InstrPrintsWrongFalsely : Prop := instrPrintsRow.holds Tryd.pinned (OpenSpec.ofChange instrPrintsWrong)

/-- 'foremanlaw06.InstrReads': WHATEVER THE INPUT: true; the input reads as it did. -/
def instrReadsSpec : ChangeSpec := { name := "instrReads", fn := fun _ => fun
  | [d1, d2] => { results := [.lit (.bool true)], args := [d1, d2] }
  | _ => none }
def instrReadsRow : OpenClaim := { program := "ytlffdaiideoijaadoor", sum := "38eceabff05fe5a1dd0129d5bd1c3bd582a886e291d87a6e6a1b0f7ac011c112", func := "foreman/foremanlaw06.InstrReads", spec := "instrReads", inPlace := ["internal/abi.NoEscape"], named := ["foreman/asm.kinds"], apart := false, laid := [("foreman/asm.kinds", laid_foreman_asm_kinds)] }
def InstrReadsSaid : Prop := instrReadsRow.holds Tryd.pinned (OpenSpec.ofChange instrReadsSpec)

/-- ITS FALSE NEIGHBOUR: 'it returns false'. Refute it at one input. -/
def instrReadsWrong : ChangeSpec := { name := "instrReads", fn := fun _ => fun
  | [d1, d2] => { results := [.lit (.bool false)], args := [d1, d2] }
  | _ => none }
def InstrReadsWrongFalsely : Prop := instrReadsRow.holds Tryd.pinned (OpenSpec.ofChange instrReadsWrong)

/-- 'foremanlaw06.InstrBack': WHATEVER THE INPUT: true; the input reads as it did. -/
def instrBackSpec : ChangeSpec := { name := "instrBack", fn := fun _ => fun
  | [d1, d2] => { results := [.lit (.bool true)], args := [d1, d2] }
  | _ => none }
def instrBackRow : OpenClaim := { program := "ytlffdaiideoijaadoor", sum := "38eceabff05fe5a1dd0129d5bd1c3bd582a886e291d87a6e6a1b0f7ac011c112", func := "foreman/foremanlaw06.InstrBack", spec := "instrBack", inPlace := ["internal/abi.NoEscape"], named := ["foreman/asm.kinds"], apart := false, laid := [("foreman/asm.kinds", laid_foreman_asm_kinds)] }
def InstrBackSaid : Prop := instrBackRow.holds Tryd.pinned (OpenSpec.ofChange instrBackSpec)

/-- ITS FALSE NEIGHBOUR: 'it returns false'. Refute it at one input. -/
def instrBackWrong : ChangeSpec := { name := "instrBack", fn := fun _ => fun
  | [d1, d2] => { results := [.lit (.bool false)], args := [d1, d2] }
  | _ => none }
def InstrBackWrongFalsely : Prop := instrBackRow.holds Tryd.pinned (OpenSpec.ofChange instrBackWrong)

/-- 'foremanlaw06.InstrSizes': WHATEVER THE INPUT: true; the input reads as it did. -/
def instrSizesSpec : ChangeSpec := { name := "instrSizes", fn := fun _ => fun
  | [d] => { results := [.lit (.bool true)], args := [d] }
  | _ => none }
def instrSizesRow : OpenClaim := { program := "ytlffdaiideoijaadoor", sum := "38eceabff05fe5a1dd0129d5bd1c3bd582a886e291d87a6e6a1b0f7ac011c112", func := "foreman/foremanlaw06.InstrSizes", spec := "instrSizes", inPlace := ["internal/abi.NoEscape"], named := ["foreman/asm.kinds"], apart := false, laid := [("foreman/asm.kinds", laid_foreman_asm_kinds)] }
def InstrSizesSaid : Prop := instrSizesRow.holds Tryd.pinned (OpenSpec.ofChange instrSizesSpec)

/-- ITS FALSE NEIGHBOUR: 'it returns false'. Refute it at one input. -/
def instrSizesWrong : ChangeSpec := { name := "instrSizes", fn := fun _ => fun
  | [d] => { results := [.lit (.bool false)], args := [d] }
  | _ => none }
def InstrSizesWrongFalsely : Prop := instrSizesRow.holds Tryd.pinned (OpenSpec.ofChange instrSizesWrong)

/- THE SECOND FORM. 'bulk': how many values and letters a reading holds, each counted each time it is reached (what is shared counts as often as it is met; a slice's spare places count too). A statement '..UptoSaid' is the law's where the arguments, and the package variables that the reading takes, are together of bulk at most 1048576: NARROWER than '..Said'. Prove '..Said' where nothing that the law and all that it calls make is longer than what came in: it says more and counts as full. Else prove '..UptoSaid'. A law counts once. -/
mutual
def uptoBulk {H : Type} : DataW H → Nat
  | .lit (.string bytes) => bytes.length + 1
  | .lit _ => 1
  | .nil => 1
  | .ptr d => uptoBulk d + 1
  | .slice elems spare => uptoBulkAll elems + uptoBulkAll spare + 1
  | .agg parts => uptoBulkAll parts + 1
  | .iface _ d => uptoBulk d + 1
  | .map entries => uptoBulkEntries entries + 1
  | .held _ => 1
def uptoBulkAll {H : Type} : List (DataW H) → Nat
  | [] => 0
  | d :: r => uptoBulk d + uptoBulkAll r
def uptoBulkEntries {H : Type} : List (Lit × DataW H) → Nat
  | [] => 0
  | x :: r => uptoBulkEntry x + uptoBulkEntries r
def uptoBulkEntry {H : Type} : Lit × DataW H → Nat
  | (.string bytes, d) => bytes.length + uptoBulk d + 1
  | (_, d) => uptoBulk d + 1
 end
def uptoSmall : (H : Type) → List (DataW H) → Bool := fun _ ds => decide (uptoBulkAll ds ≤ 1048576)
def OpenSpec.upto (s : _root_.Go.ChangeSpec) : _root_.Go.OpenSpec := { _root_.Go.OpenSpec.ofChange s with cond := some uptoSmall }

/-- 'foremanlaw06.InstrPrints', WHERE WHAT IT READS IS OF BULK AT MOST 1048576: true; the input reads as it did. -/
def instrPrintsUptoRow : OpenClaim := { program := "ytlffdaiideoijaadoor", sum := "38eceabff05fe5a1dd0129d5bd1c3bd582a886e291d87a6e6a1b0f7ac011c112", func := "foreman/foremanlaw06.InstrPrints", spec := "instrPrints", inPlace := ["internal/abi.NoEscape"], named := ["foreman/asm.kinds"], apart := false, laid := [("foreman/asm.kinds", laid_foreman_asm_kinds)], narrowed := true }
def InstrPrintsUptoSaid : Prop := instrPrintsUptoRow.holds Tryd.pinned (OpenSpec.upto instrPrintsSpec)

/-- 'foremanlaw06.InstrReads', WHERE WHAT IT READS IS OF BULK AT MOST 1048576: true; the input reads as it did. -/
def instrReadsUptoRow : OpenClaim := { program := "ytlffdaiideoijaadoor", sum := "38eceabff05fe5a1dd0129d5bd1c3bd582a886e291d87a6e6a1b0f7ac011c112", func := "foreman/foremanlaw06.InstrReads", spec := "instrReads", inPlace := ["internal/abi.NoEscape"], named := ["foreman/asm.kinds"], apart := false, laid := [("foreman/asm.kinds", laid_foreman_asm_kinds)], narrowed := true }
def InstrReadsUptoSaid : Prop := instrReadsUptoRow.holds Tryd.pinned (OpenSpec.upto instrReadsSpec)

/-- 'foremanlaw06.InstrBack', WHERE WHAT IT READS IS OF BULK AT MOST 1048576: true; the input reads as it did. -/
def instrBackUptoRow : OpenClaim := { program := "ytlffdaiideoijaadoor", sum := "38eceabff05fe5a1dd0129d5bd1c3bd582a886e291d87a6e6a1b0f7ac011c112", func := "foreman/foremanlaw06.InstrBack", spec := "instrBack", inPlace := ["internal/abi.NoEscape"], named := ["foreman/asm.kinds"], apart := false, laid := [("foreman/asm.kinds", laid_foreman_asm_kinds)], narrowed := true }
def InstrBackUptoSaid : Prop := instrBackUptoRow.holds Tryd.pinned (OpenSpec.upto instrBackSpec)

/-- 'foremanlaw06.InstrSizes', WHERE WHAT IT READS IS OF BULK AT MOST 1048576: true; the input reads as it did. -/
def instrSizesUptoRow : OpenClaim := { program := "ytlffdaiideoijaadoor", sum := "38eceabff05fe5a1dd0129d5bd1c3bd582a886e291d87a6e6a1b0f7ac011c112", func := "foreman/foremanlaw06.InstrSizes", spec := "instrSizes", inPlace := ["internal/abi.NoEscape"], named := ["foreman/asm.kinds"], apart := false, laid := [("foreman/asm.kinds", laid_foreman_asm_kinds)], narrowed := true }
def InstrSizesUptoSaid : Prop := instrSizesUptoRow.holds Tryd.pinned (OpenSpec.upto instrSizesSpec)

end Rows
end Go.Proofs.YtlffdaiideoijaaDoor
