/-
  No cell of these rows narrows 'for every input' (looked for: loops, veiled, ifaces, maps, wideKeys, modest, calm, conditions, laid).
  DERIVED. THE GIVEN ROWS OF THIS SEAT. 4 by the template 'for every input the law returns true; each argument reads behind the call as it read before'; 0 by the template 'total and deterministic' (their statements: YtoomadafgkcebaaTotals.lean).
  GIVEN WITH THE SEED: the statements are not yours to turn. If you find one false, say at which input.
  Laid BY PROGRAM, IN A SANDBOX (cutbox-rows.mjs): the forced cells as the released guide's own fill.sh prints them over the translation 782a096914d47d38… (all of the seat's roots in one cut). By AI agents, Wed Nov 11 2026. No macro, syntax, notation, axiom, sorry.
-/
import Derived.Test.YtoomadafgkcebaaChecked
import GoSem.Claim
import GoSem.ClaimJoined
import GoSem.ClaimMapViews
import Derived.JoinedTies
import Derived.KernelRfl
namespace Go.Proofs.Ytoomadafgkcebaa
/- THE CELL 'sum', in the pinned program and in every row, IS THE sha256 OF THE DUMP (.gsa) THAT YtoomadafgkcebaaProg.lean LOADS. Nothing in Lean hashes anything: it is a label: what it is worth is what the hold of that sum in a sandbox is worth. -/
noncomputable def Try.pinned : Pinned := { name := "ytoomadafgkcebaa", sum := "782a096914d47d38248321764550a7903a693826b748b0695ff82a55d0ccccd9", checked := Try.checked }
namespace Rows
def none {H : Type} : Left H := { results := [], args := [] }

/-- 'foremanlaw11.RunWhole': WHATEVER THE INPUT: true; the input reads as it did. -/
def runWholeSpec : ChangeSpec := { name := "runWhole", fn := fun _ => fun
  | [d1, d2, d3] => { results := [.lit (.bool true)], args := [d1, d2, d3] }
  | _ => none }
def runWholeRow : OpenClaim := { program := "ytoomadafgkcebaa", sum := "782a096914d47d38248321764550a7903a693826b748b0695ff82a55d0ccccd9", func := "foreman/foremanlaw11.RunWhole", spec := "runWhole", apart := false }
def RunWholeSaid : Prop := runWholeRow.holds Try.pinned (OpenSpec.ofChange runWholeSpec)

/-- ITS FALSE NEIGHBOUR: 'it returns false'. Refute it at one input. -/
def runWholeWrong : ChangeSpec := { name := "runWhole", fn := fun _ => fun
  | [d1, d2, d3] => { results := [.lit (.bool false)], args := [d1, d2, d3] }
  | _ => none }
def RunWholeWrongFalsely : Prop := runWholeRow.holds Try.pinned (OpenSpec.ofChange runWholeWrong)

/-- 'foremanlaw11.RunBound': WHATEVER THE INPUT: true; the input reads as it did. -/
def runBoundSpec : ChangeSpec := { name := "runBound", fn := fun _ => fun
  | [d1, d2] => { results := [.lit (.bool true)], args := [d1, d2] }
  | _ => none }
def runBoundRow : OpenClaim := { program := "ytoomadafgkcebaa", sum := "782a096914d47d38248321764550a7903a693826b748b0695ff82a55d0ccccd9", func := "foreman/foremanlaw11.RunBound", spec := "runBound", apart := false }
def RunBoundSaid : Prop := runBoundRow.holds Try.pinned (OpenSpec.ofChange runBoundSpec)

/-- ITS FALSE NEIGHBOUR: 'it returns false'. Refute it at one input. -/
def runBoundWrong : ChangeSpec := { name := "runBound", fn := fun _ => fun
  | [d1, d2] => { results := [.lit (.bool false)], args := [d1, d2] }
  | _ => none }
def RunBoundWrongFalsely : Prop := runBoundRow.holds Try.pinned (OpenSpec.ofChange runBoundWrong)

/-- 'foremanlaw11.RunReads': WHATEVER THE INPUT: true; the input reads as it did. -/
def runReadsSpec : ChangeSpec := { name := "runReads", fn := fun _ => fun
  | [d1, d2, d3] => { results := [.lit (.bool true)], args := [d1, d2, d3] }
  | _ => none }
def runReadsRow : OpenClaim := { program := "ytoomadafgkcebaa", sum := "782a096914d47d38248321764550a7903a693826b748b0695ff82a55d0ccccd9", func := "foreman/foremanlaw11.RunReads", spec := "runReads", apart := false }
def RunReadsSaid : Prop := runReadsRow.holds Try.pinned (OpenSpec.ofChange runReadsSpec)

/-- ITS FALSE NEIGHBOUR: 'it returns false'. Refute it at one input. -/
def runReadsWrong : ChangeSpec := { name := "runReads", fn := fun _ => fun
  | [d1, d2, d3] => { results := [.lit (.bool false)], args := [d1, d2, d3] }
  | _ => none }
def RunReadsWrongFalsely : Prop := runReadsRow.holds Try.pinned (OpenSpec.ofChange runReadsWrong)

/-- 'foremanlaw11.RunGoes': WHATEVER THE INPUT: true; the input reads as it did. -/
def runGoesSpec : ChangeSpec := { name := "runGoes", fn := fun _ => fun
  | [d1, d2, d3] => { results := [.lit (.bool true)], args := [d1, d2, d3] }
  | _ => none }
def runGoesRow : OpenClaim := { program := "ytoomadafgkcebaa", sum := "782a096914d47d38248321764550a7903a693826b748b0695ff82a55d0ccccd9", func := "foreman/foremanlaw11.RunGoes", spec := "runGoes", apart := false }
def RunGoesSaid : Prop := runGoesRow.holds Try.pinned (OpenSpec.ofChange runGoesSpec)

/-- ITS FALSE NEIGHBOUR: 'it returns false'. Refute it at one input. -/
def runGoesWrong : ChangeSpec := { name := "runGoes", fn := fun _ => fun
  | [d1, d2, d3] => { results := [.lit (.bool false)], args := [d1, d2, d3] }
  | _ => none }
def RunGoesWrongFalsely : Prop := runGoesRow.holds Try.pinned (OpenSpec.ofChange runGoesWrong)

/- THE SECOND FORM. 'bulk': how many values and letters a reading holds, each counted each time it is reached (what is shared counts as often as it is met; a slice's spare places count too). A statement '..UptoSaid' is the law's where the arguments, and the package variables that the reading takes, are together of bulk at most 1048576: NARROWER than '..Said'. Prove '..Said' where nothing that the law and all that it calls make is longer than what came in: it says more and counts as full. Else prove '..UptoSaid'. A law counts once. -/
mutual
def uptoBulk {H : Type} : DataW H → Nat
  | .lit (.string bytes) => bytes.length + 1
  | .lit _ => 1
  | .nil => 1
  | .ptr d => uptoBulk d + 1
  | .slice elems spare => uptoBulkAll elems + uptoBulkAll spare + 1
  | .agg parts => uptoBulkAll parts + 1
  | .iface _ d => uptoBulk d + 1
  | .map entries => uptoBulkEntries entries + 1
  | .held _ => 1
def uptoBulkAll {H : Type} : List (DataW H) → Nat
  | [] => 0
  | d :: r => uptoBulk d + uptoBulkAll r
def uptoBulkEntries {H : Type} : List (Lit × DataW H) → Nat
  | [] => 0
  | x :: r => uptoBulkEntry x + uptoBulkEntries r
def uptoBulkEntry {H : Type} : Lit × DataW H → Nat
  | (.string bytes, d) => bytes.length + uptoBulk d + 1
  | (_, d) => uptoBulk d + 1
 end
def uptoSmall : (H : Type) → List (DataW H) → Bool := fun _ ds => decide (uptoBulkAll ds ≤ 1048576)
def OpenSpec.upto (s : _root_.Go.ChangeSpec) : _root_.Go.OpenSpec := { _root_.Go.OpenSpec.ofChange s with cond := some uptoSmall }

/-- 'foremanlaw11.RunWhole', WHERE WHAT IT READS IS OF BULK AT MOST 1048576: true; the input reads as it did. -/
def runWholeUptoRow : OpenClaim := { program := "ytoomadafgkcebaa", sum := "782a096914d47d38248321764550a7903a693826b748b0695ff82a55d0ccccd9", func := "foreman/foremanlaw11.RunWhole", spec := "runWhole", apart := false, narrowed := true }
def RunWholeUptoSaid : Prop := runWholeUptoRow.holds Try.pinned (OpenSpec.upto runWholeSpec)

/-- 'foremanlaw11.RunBound', WHERE WHAT IT READS IS OF BULK AT MOST 1048576: true; the input reads as it did. -/
def runBoundUptoRow : OpenClaim := { program := "ytoomadafgkcebaa", sum := "782a096914d47d38248321764550a7903a693826b748b0695ff82a55d0ccccd9", func := "foreman/foremanlaw11.RunBound", spec := "runBound", apart := false, narrowed := true }
def RunBoundUptoSaid : Prop := runBoundUptoRow.holds Try.pinned (OpenSpec.upto runBoundSpec)

/-- 'foremanlaw11.RunReads', WHERE WHAT IT READS IS OF BULK AT MOST 1048576: true; the input reads as it did. -/
def runReadsUptoRow : OpenClaim := { program := "ytoomadafgkcebaa", sum := "782a096914d47d38248321764550a7903a693826b748b0695ff82a55d0ccccd9", func := "foreman/foremanlaw11.RunReads", spec := "runReads", apart := false, narrowed := true }
def RunReadsUptoSaid : Prop := runReadsUptoRow.holds Try.pinned (OpenSpec.upto runReadsSpec)

/-- 'foremanlaw11.RunGoes', WHERE WHAT IT READS IS OF BULK AT MOST 1048576: true; the input reads as it did. -/
def runGoesUptoRow : OpenClaim := { program := "ytoomadafgkcebaa", sum := "782a096914d47d38248321764550a7903a693826b748b0695ff82a55d0ccccd9", func := "foreman/foremanlaw11.RunGoes", spec := "runGoes", apart := false, narrowed := true }
def RunGoesUptoSaid : Prop := runGoesUptoRow.holds Try.pinned (OpenSpec.upto runGoesSpec)

end Rows
end Go.Proofs.Ytoomadafgkcebaa
