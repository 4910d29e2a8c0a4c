/-
  No cell of these rows narrows 'for every input' (looked for: loops, veiled, ifaces, maps, wideKeys, modest, calm, conditions, laid).
  DERIVED. THE GIVEN ROWS OF THIS SEAT. 5 by the template 'for every input the law returns true; each argument reads behind the call as it read before'; 0 by the template 'total and deterministic' (their statements: YtoolgbeiphdkdaaTotals.lean).
  GIVEN WITH THE SEED: the statements are not yours to turn. If you find one false, say at which input.
  Laid BY PROGRAM, IN A SANDBOX (cutbox-rows.mjs): the forced cells as the released guide's own fill.sh prints them over the translation 20b64364f670067f… (all of the seat's roots in one cut). By AI agents, Wed Nov 11 2026. No macro, syntax, notation, axiom, sorry.
-/
import Derived.Test.YtoolgbeiphdkdaaChecked
import GoSem.Claim
import GoSem.ClaimJoined
import GoSem.ClaimMapViews
import Derived.JoinedTies
import Derived.KernelRfl
namespace Go.Proofs.Ytoolgbeiphdkdaa
/- THE CELL 'sum', in the pinned program and in every row, IS THE sha256 OF THE DUMP (.gsa) THAT YtoolgbeiphdkdaaProg.lean LOADS. Nothing in Lean hashes anything: it is a label: what it is worth is what the hold of that sum in a sandbox is worth. -/
noncomputable def Try.pinned : Pinned := { name := "ytoolgbeiphdkdaa", sum := "20b64364f670067ffd9542e16d0ba1ac67fc95e097bef7811ae143f24ccb8d3b", checked := Try.checked }
namespace Rows
def none {H : Type} : Left H := { results := [], args := [] }

/-- 'foremanlaw03.LayWrites': WHATEVER THE INPUT: true; the input reads as it did. -/
def layWritesSpec : ChangeSpec := { name := "layWrites", fn := fun _ => fun
  | [d1, d2] => { results := [.lit (.bool true)], args := [d1, d2] }
  | _ => none }
def layWritesRow : OpenClaim := { program := "ytoolgbeiphdkdaa", sum := "20b64364f670067ffd9542e16d0ba1ac67fc95e097bef7811ae143f24ccb8d3b", func := "foreman/foremanlaw03.LayWrites", spec := "layWrites", apart := false }
def LayWritesSaid : Prop := layWritesRow.holds Try.pinned (OpenSpec.ofChange layWritesSpec)

/-- ITS FALSE NEIGHBOUR: 'it returns false'. Refute it at one input. -/
def layWritesWrong : ChangeSpec := { name := "layWrites", fn := fun _ => fun
  | [d1, d2] => { results := [.lit (.bool false)], args := [d1, d2] }
  | _ => none }
def LayWritesWrongFalsely : Prop := layWritesRow.holds Try.pinned (OpenSpec.ofChange layWritesWrong)

/-- 'foremanlaw03.LayReads': WHATEVER THE INPUT: true; the input reads as it did. -/
def layReadsSpec : ChangeSpec := { name := "layReads", fn := fun _ => fun
  | [d1, d2, d3] => { results := [.lit (.bool true)], args := [d1, d2, d3] }
  | _ => none }
def layReadsRow : OpenClaim := { program := "ytoolgbeiphdkdaa", sum := "20b64364f670067ffd9542e16d0ba1ac67fc95e097bef7811ae143f24ccb8d3b", func := "foreman/foremanlaw03.LayReads", spec := "layReads", apart := false }
def LayReadsSaid : Prop := layReadsRow.holds Try.pinned (OpenSpec.ofChange layReadsSpec)

/-- ITS FALSE NEIGHBOUR: 'it returns false'. Refute it at one input. -/
def layReadsWrong : ChangeSpec := { name := "layReads", fn := fun _ => fun
  | [d1, d2, d3] => { results := [.lit (.bool false)], args := [d1, d2, d3] }
  | _ => none }
def LayReadsWrongFalsely : Prop := layReadsRow.holds Try.pinned (OpenSpec.ofChange layReadsWrong)

/-- 'foremanlaw03.LayBack': WHATEVER THE INPUT: true; the input reads as it did. -/
def layBackSpec : ChangeSpec := { name := "layBack", fn := fun _ => fun
  | [d1, d2, d3] => { results := [.lit (.bool true)], args := [d1, d2, d3] }
  | _ => none }
def layBackRow : OpenClaim := { program := "ytoolgbeiphdkdaa", sum := "20b64364f670067ffd9542e16d0ba1ac67fc95e097bef7811ae143f24ccb8d3b", func := "foreman/foremanlaw03.LayBack", spec := "layBack", apart := false }
def LayBackSaid : Prop := layBackRow.holds Try.pinned (OpenSpec.ofChange layBackSpec)

/-- ITS FALSE NEIGHBOUR: 'it returns false'. Refute it at one input. -/
def layBackWrong : ChangeSpec := { name := "layBack", fn := fun _ => fun
  | [d1, d2, d3] => { results := [.lit (.bool false)], args := [d1, d2, d3] }
  | _ => none }
def LayBackWrongFalsely : Prop := layBackRow.holds Try.pinned (OpenSpec.ofChange layBackWrong)

/-- 'foremanlaw03.LayOrder': WHATEVER THE INPUT: true; the input reads as it did. -/
def layOrderSpec : ChangeSpec := { name := "layOrder", fn := fun _ => fun
  | [d1, d2] => { results := [.lit (.bool true)], args := [d1, d2] }
  | _ => none }
def layOrderRow : OpenClaim := { program := "ytoolgbeiphdkdaa", sum := "20b64364f670067ffd9542e16d0ba1ac67fc95e097bef7811ae143f24ccb8d3b", func := "foreman/foremanlaw03.LayOrder", spec := "layOrder", apart := false }
def LayOrderSaid : Prop := layOrderRow.holds Try.pinned (OpenSpec.ofChange layOrderSpec)

/-- ITS FALSE NEIGHBOUR: 'it returns false'. Refute it at one input. -/
def layOrderWrong : ChangeSpec := { name := "layOrder", fn := fun _ => fun
  | [d1, d2] => { results := [.lit (.bool false)], args := [d1, d2] }
  | _ => none }
def LayOrderWrongFalsely : Prop := layOrderRow.holds Try.pinned (OpenSpec.ofChange layOrderWrong)

/-- 'foremanlaw03.LayBytes': WHATEVER THE INPUT: true; the input reads as it did. -/
def layBytesSpec : ChangeSpec := { name := "layBytes", fn := fun _ => fun
  | [d] => { results := [.lit (.bool true)], args := [d] }
  | _ => none }
def layBytesRow : OpenClaim := { program := "ytoolgbeiphdkdaa", sum := "20b64364f670067ffd9542e16d0ba1ac67fc95e097bef7811ae143f24ccb8d3b", func := "foreman/foremanlaw03.LayBytes", spec := "layBytes", apart := false }
def LayBytesSaid : Prop := layBytesRow.holds Try.pinned (OpenSpec.ofChange layBytesSpec)

/-- ITS FALSE NEIGHBOUR: 'it returns false'. Refute it at one input. -/
def layBytesWrong : ChangeSpec := { name := "layBytes", fn := fun _ => fun
  | [d] => { results := [.lit (.bool false)], args := [d] }
  | _ => none }
def LayBytesWrongFalsely : Prop := layBytesRow.holds Try.pinned (OpenSpec.ofChange layBytesWrong)

/- THE SECOND FORM. 'bulk': how many values and letters a reading holds, each counted each time it is reached (what is shared counts as often as it is met; a slice's spare places count too). A statement '..UptoSaid' is the law's where the arguments, and the package variables that the reading takes, are together of bulk at most 1048576: NARROWER than '..Said'. Prove '..Said' where nothing that the law and all that it calls make is longer than what came in: it says more and counts as full. Else prove '..UptoSaid'. A law counts once. -/
mutual
def uptoBulk {H : Type} : DataW H → Nat
  | .lit (.string bytes) => bytes.length + 1
  | .lit _ => 1
  | .nil => 1
  | .ptr d => uptoBulk d + 1
  | .slice elems spare => uptoBulkAll elems + uptoBulkAll spare + 1
  | .agg parts => uptoBulkAll parts + 1
  | .iface _ d => uptoBulk d + 1
  | .map entries => uptoBulkEntries entries + 1
  | .held _ => 1
def uptoBulkAll {H : Type} : List (DataW H) → Nat
  | [] => 0
  | d :: r => uptoBulk d + uptoBulkAll r
def uptoBulkEntries {H : Type} : List (Lit × DataW H) → Nat
  | [] => 0
  | x :: r => uptoBulkEntry x + uptoBulkEntries r
def uptoBulkEntry {H : Type} : Lit × DataW H → Nat
  | (.string bytes, d) => bytes.length + uptoBulk d + 1
  | (_, d) => uptoBulk d + 1
 end
def uptoSmall : (H : Type) → List (DataW H) → Bool := fun _ ds => decide (uptoBulkAll ds ≤ 1048576)
def OpenSpec.upto (s : _root_.Go.ChangeSpec) : _root_.Go.OpenSpec := { _root_.Go.OpenSpec.ofChange s with cond := some uptoSmall }

/-- 'foremanlaw03.LayWrites', WHERE WHAT IT READS IS OF BULK AT MOST 1048576: true; the input reads as it did. -/
def layWritesUptoRow : OpenClaim := { program := "ytoolgbeiphdkdaa", sum := "20b64364f670067ffd9542e16d0ba1ac67fc95e097bef7811ae143f24ccb8d3b", func := "foreman/foremanlaw03.LayWrites", spec := "layWrites", apart := false, narrowed := true }
def LayWritesUptoSaid : Prop := layWritesUptoRow.holds Try.pinned (OpenSpec.upto layWritesSpec)

/-- 'foremanlaw03.LayReads', WHERE WHAT IT READS IS OF BULK AT MOST 1048576: true; the input reads as it did. -/
def layReadsUptoRow : OpenClaim := { program := "ytoolgbeiphdkdaa", sum := "20b64364f670067ffd9542e16d0ba1ac67fc95e097bef7811ae143f24ccb8d3b", func := "foreman/foremanlaw03.LayReads", spec := "layReads", apart := false, narrowed := true }
def LayReadsUptoSaid : Prop := layReadsUptoRow.holds Try.pinned (OpenSpec.upto layReadsSpec)

/-- 'foremanlaw03.LayBack', WHERE WHAT IT READS IS OF BULK AT MOST 1048576: true; the input reads as it did. -/
def layBackUptoRow : OpenClaim := { program := "ytoolgbeiphdkdaa", sum := "20b64364f670067ffd9542e16d0ba1ac67fc95e097bef7811ae143f24ccb8d3b", func := "foreman/foremanlaw03.LayBack", spec := "layBack", apart := false, narrowed := true }
def LayBackUptoSaid : Prop := layBackUptoRow.holds Try.pinned (OpenSpec.upto layBackSpec)

/-- 'foremanlaw03.LayOrder', WHERE WHAT IT READS IS OF BULK AT MOST 1048576: true; the input reads as it did. -/
def layOrderUptoRow : OpenClaim := { program := "ytoolgbeiphdkdaa", sum := "20b64364f670067ffd9542e16d0ba1ac67fc95e097bef7811ae143f24ccb8d3b", func := "foreman/foremanlaw03.LayOrder", spec := "layOrder", apart := false, narrowed := true }
def LayOrderUptoSaid : Prop := layOrderUptoRow.holds Try.pinned (OpenSpec.upto layOrderSpec)

/-- 'foremanlaw03.LayBytes', WHERE WHAT IT READS IS OF BULK AT MOST 1048576: true; the input reads as it did. -/
def layBytesUptoRow : OpenClaim := { program := "ytoolgbeiphdkdaa", sum := "20b64364f670067ffd9542e16d0ba1ac67fc95e097bef7811ae143f24ccb8d3b", func := "foreman/foremanlaw03.LayBytes", spec := "layBytes", apart := false, narrowed := true }
def LayBytesUptoSaid : Prop := layBytesUptoRow.holds Try.pinned (OpenSpec.upto layBytesSpec)

end Rows
end Go.Proofs.Ytoolgbeiphdkdaa
