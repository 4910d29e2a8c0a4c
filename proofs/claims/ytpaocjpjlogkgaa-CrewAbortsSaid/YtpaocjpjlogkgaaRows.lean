/-
  No cell of these rows narrows 'for every input' (looked for: loops, veiled, ifaces, maps, wideKeys, modest, calm, conditions, laid).
  DERIVED. THE GIVEN ROWS OF THIS SEAT. 3 by the template 'for every input the law returns true; each argument reads behind the call as it read before'; 0 by the template 'total and deterministic' (their statements: YtpaocjpjlogkgaaTotals.lean).
  GIVEN WITH THE SEED: the statements are not yours to turn. If you find one false, say at which input.
  Laid BY PROGRAM, IN A SANDBOX (cutbox-rows.mjs): the forced cells as the released guide's own fill.sh prints them over the translation 8bc4fc045104f3a3… (all of the seat's roots in one cut). By AI agents, Wed Nov 11 2026. No macro, syntax, notation, axiom, sorry.
-/
import Derived.Test.YtpaocjpjlogkgaaChecked
import GoSem.Claim
import GoSem.ClaimJoined
import GoSem.ClaimMapViews
import Derived.JoinedTies
import Derived.KernelRfl
namespace Go.Proofs.Ytpaocjpjlogkgaa
/- THE CELL 'sum', in the pinned program and in every row, IS THE sha256 OF THE DUMP (.gsa) THAT YtpaocjpjlogkgaaProg.lean LOADS. Nothing in Lean hashes anything: it is a label: what it is worth is what the hold of that sum in a sandbox is worth. -/
noncomputable def Try.pinned : Pinned := { name := "ytpaocjpjlogkgaa", sum := "8bc4fc045104f3a3e0f0ea85ef01f2dc854ff7e435fbcefd5760b0c3995c2a2c", checked := Try.checked }
namespace Rows
def none {H : Type} : Left H := { results := [], args := [] }

/-- 'foremanlaw17.CrewBound': WHATEVER THE INPUT: true; the input reads as it did. -/
def crewBoundSpec : ChangeSpec := { name := "crewBound", fn := fun _ => fun
  | [d1, d2] => { results := [.lit (.bool true)], args := [d1, d2] }
  | _ => none }
def crewBoundRow : OpenClaim := { program := "ytpaocjpjlogkgaa", sum := "8bc4fc045104f3a3e0f0ea85ef01f2dc854ff7e435fbcefd5760b0c3995c2a2c", func := "foreman/foremanlaw17.CrewBound", spec := "crewBound", unfollowed := true, recurses := true, apart := false }
def CrewBoundSaid : Prop := crewBoundRow.holds Try.pinned (OpenSpec.ofChange crewBoundSpec)

/-- ITS FALSE NEIGHBOUR: 'it returns false'. Refute it at one input. -/
def crewBoundWrong : ChangeSpec := { name := "crewBound", fn := fun _ => fun
  | [d1, d2] => { results := [.lit (.bool false)], args := [d1, d2] }
  | _ => none }
def CrewBoundWrongFalsely : Prop := crewBoundRow.holds Try.pinned (OpenSpec.ofChange crewBoundWrong)

/-- 'foremanlaw17.CrewAborts': WHATEVER THE INPUT: true; the input reads as it did. -/
def crewAbortsSpec : ChangeSpec := { name := "crewAborts", fn := fun _ => fun
  | [d1, d2] => { results := [.lit (.bool true)], args := [d1, d2] }
  | _ => none }
def crewAbortsRow : OpenClaim := { program := "ytpaocjpjlogkgaa", sum := "8bc4fc045104f3a3e0f0ea85ef01f2dc854ff7e435fbcefd5760b0c3995c2a2c", func := "foreman/foremanlaw17.CrewAborts", spec := "crewAborts", unfollowed := true, recurses := true, apart := false }
def CrewAbortsSaid : Prop := crewAbortsRow.holds Try.pinned (OpenSpec.ofChange crewAbortsSpec)

/-- ITS FALSE NEIGHBOUR: 'it returns false'. Refute it at one input. -/
def crewAbortsWrong : ChangeSpec := { name := "crewAborts", fn := fun _ => fun
  | [d1, d2] => { results := [.lit (.bool false)], args := [d1, d2] }
  | _ => none }
def CrewAbortsWrongFalsely : Prop := crewAbortsRow.holds Try.pinned (OpenSpec.ofChange crewAbortsWrong)

/-- 'foremanlaw17.CrewMarks': WHATEVER THE INPUT: true; the input reads as it did. -/
def crewMarksSpec : ChangeSpec := { name := "crewMarks", fn := fun _ => fun
  | [d1, d2] => { results := [.lit (.bool true)], args := [d1, d2] }
  | _ => none }
def crewMarksRow : OpenClaim := { program := "ytpaocjpjlogkgaa", sum := "8bc4fc045104f3a3e0f0ea85ef01f2dc854ff7e435fbcefd5760b0c3995c2a2c", func := "foreman/foremanlaw17.CrewMarks", spec := "crewMarks", unfollowed := true, recurses := true, apart := false }
def CrewMarksSaid : Prop := crewMarksRow.holds Try.pinned (OpenSpec.ofChange crewMarksSpec)

/-- ITS FALSE NEIGHBOUR: 'it returns false'. Refute it at one input. -/
def crewMarksWrong : ChangeSpec := { name := "crewMarks", fn := fun _ => fun
  | [d1, d2] => { results := [.lit (.bool false)], args := [d1, d2] }
  | _ => none }
def CrewMarksWrongFalsely : Prop := crewMarksRow.holds Try.pinned (OpenSpec.ofChange crewMarksWrong)

/- THE SECOND FORM. 'bulk': how many values and letters a reading holds, each counted each time it is reached (what is shared counts as often as it is met; a slice's spare places count too). A statement '..UptoSaid' is the law's where the arguments, and the package variables that the reading takes, are together of bulk at most 1048576: NARROWER than '..Said'. Prove '..Said' where nothing that the law and all that it calls make is longer than what came in: it says more and counts as full. Else prove '..UptoSaid'. A law counts once. -/
mutual
def uptoBulk {H : Type} : DataW H → Nat
  | .lit (.string bytes) => bytes.length + 1
  | .lit _ => 1
  | .nil => 1
  | .ptr d => uptoBulk d + 1
  | .slice elems spare => uptoBulkAll elems + uptoBulkAll spare + 1
  | .agg parts => uptoBulkAll parts + 1
  | .iface _ d => uptoBulk d + 1
  | .map entries => uptoBulkEntries entries + 1
  | .held _ => 1
def uptoBulkAll {H : Type} : List (DataW H) → Nat
  | [] => 0
  | d :: r => uptoBulk d + uptoBulkAll r
def uptoBulkEntries {H : Type} : List (Lit × DataW H) → Nat
  | [] => 0
  | x :: r => uptoBulkEntry x + uptoBulkEntries r
def uptoBulkEntry {H : Type} : Lit × DataW H → Nat
  | (.string bytes, d) => bytes.length + uptoBulk d + 1
  | (_, d) => uptoBulk d + 1
 end
def uptoSmall : (H : Type) → List (DataW H) → Bool := fun _ ds => decide (uptoBulkAll ds ≤ 1048576)
def OpenSpec.upto (s : _root_.Go.ChangeSpec) : _root_.Go.OpenSpec := { _root_.Go.OpenSpec.ofChange s with cond := some uptoSmall }

/-- 'foremanlaw17.CrewBound', WHERE WHAT IT READS IS OF BULK AT MOST 1048576: true; the input reads as it did. -/
def crewBoundUptoRow : OpenClaim := { program := "ytpaocjpjlogkgaa", sum := "8bc4fc045104f3a3e0f0ea85ef01f2dc854ff7e435fbcefd5760b0c3995c2a2c", func := "foreman/foremanlaw17.CrewBound", spec := "crewBound", unfollowed := true, recurses := true, apart := false, narrowed := true }
def CrewBoundUptoSaid : Prop := crewBoundUptoRow.holds Try.pinned (OpenSpec.upto crewBoundSpec)

/-- 'foremanlaw17.CrewAborts', WHERE WHAT IT READS IS OF BULK AT MOST 1048576: true; the input reads as it did. -/
def crewAbortsUptoRow : OpenClaim := { program := "ytpaocjpjlogkgaa", sum := "8bc4fc045104f3a3e0f0ea85ef01f2dc854ff7e435fbcefd5760b0c3995c2a2c", func := "foreman/foremanlaw17.CrewAborts", spec := "crewAborts", unfollowed := true, recurses := true, apart := false, narrowed := true }
def CrewAbortsUptoSaid : Prop := crewAbortsUptoRow.holds Try.pinned (OpenSpec.upto crewAbortsSpec)

/-- 'foremanlaw17.CrewMarks', WHERE WHAT IT READS IS OF BULK AT MOST 1048576: true; the input reads as it did. -/
def crewMarksUptoRow : OpenClaim := { program := "ytpaocjpjlogkgaa", sum := "8bc4fc045104f3a3e0f0ea85ef01f2dc854ff7e435fbcefd5760b0c3995c2a2c", func := "foreman/foremanlaw17.CrewMarks", spec := "crewMarks", unfollowed := true, recurses := true, apart := false, narrowed := true }
def CrewMarksUptoSaid : Prop := crewMarksUptoRow.holds Try.pinned (OpenSpec.upto crewMarksSpec)

end Rows
end Go.Proofs.Ytpaocjpjlogkgaa
