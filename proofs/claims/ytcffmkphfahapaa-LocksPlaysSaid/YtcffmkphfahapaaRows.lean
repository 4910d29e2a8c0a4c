/-
  No cell of these rows narrows 'for every input' (looked for: loops, veiled, ifaces, maps, wideKeys, modest, calm, conditions, laid).
  DERIVED. THE GIVEN ROWS OF THIS SEAT. 5 by the template 'for every input the law returns true; each argument reads behind the call as it read before'; 0 by the template 'total and deterministic' (their statements: YtcffmkphfahapaaTotals.lean).
  GIVEN WITH THE SEED: the statements are not yours to turn. If you find one false, say at which input.
  Laid BY PROGRAM, IN A SANDBOX (cutbox-rows.mjs): the forced cells as the released guide's own fill.sh prints them over the translation a0d32b3584b708a7… (all of the seat's roots in one cut). By AI agents, Wed Nov 11 2026. No macro, syntax, notation, axiom, sorry.
-/
import Derived.Test.YtcffmkphfahapaaChecked
import GoSem.Claim
import GoSem.ClaimJoined
import GoSem.ClaimMapViews
import Derived.JoinedTies
import Derived.KernelRfl
namespace Go.Proofs.Ytcffmkphfahapaa
/- THE CELL 'sum', in the pinned program and in every row, IS THE sha256 OF THE DUMP (.gsa) THAT YtcffmkphfahapaaProg.lean LOADS. Nothing in Lean hashes anything: it is a label: what it is worth is what the hold of that sum in a sandbox is worth. -/
noncomputable def Try.pinned : Pinned := { name := "ytcffmkphfahapaa", sum := "a0d32b3584b708a750a40aff5d4a02e03686d41ad7f8cdcdefa8dabbdf9bcfa8", checked := Try.checked }
namespace Rows
def none {H : Type} : Left H := { results := [], args := [] }

/-- 'foremanlaw15.LocksPlays': WHATEVER THE INPUT: true; the input reads as it did. -/
def locksPlaysSpec : ChangeSpec := { name := "locksPlays", fn := fun _ => fun
  | [d1, d2] => { results := [.lit (.bool true)], args := [d1, d2] }
  | _ => none }
def locksPlaysRow : OpenClaim := { program := "ytcffmkphfahapaa", sum := "a0d32b3584b708a750a40aff5d4a02e03686d41ad7f8cdcdefa8dabbdf9bcfa8", func := "foreman/foremanlaw15.LocksPlays", spec := "locksPlays", unfollowed := true, recurses := true, apart := false }
def LocksPlaysSaid : Prop := locksPlaysRow.holds Try.pinned (OpenSpec.ofChange locksPlaysSpec)

/-- ITS FALSE NEIGHBOUR: 'it returns false'. Refute it at one input. -/
def locksPlaysWrong : ChangeSpec := { name := "locksPlays", fn := fun _ => fun
  | [d1, d2] => { results := [.lit (.bool false)], args := [d1, d2] }
  | _ => none }
def LocksPlaysWrongFalsely : Prop := locksPlaysRow.holds Try.pinned (OpenSpec.ofChange locksPlaysWrong)

/-- 'foremanlaw15.LocksFirst': WHATEVER THE INPUT: true; the input reads as it did. -/
def locksFirstSpec : ChangeSpec := { name := "locksFirst", fn := fun _ => fun
  | [d1, d2] => { results := [.lit (.bool true)], args := [d1, d2] }
  | _ => none }
def locksFirstRow : OpenClaim := { program := "ytcffmkphfahapaa", sum := "a0d32b3584b708a750a40aff5d4a02e03686d41ad7f8cdcdefa8dabbdf9bcfa8", func := "foreman/foremanlaw15.LocksFirst", spec := "locksFirst", unfollowed := true, recurses := true, apart := false }
def LocksFirstSaid : Prop := locksFirstRow.holds Try.pinned (OpenSpec.ofChange locksFirstSpec)

/-- ITS FALSE NEIGHBOUR: 'it returns false'. Refute it at one input. -/
def locksFirstWrong : ChangeSpec := { name := "locksFirst", fn := fun _ => fun
  | [d1, d2] => { results := [.lit (.bool false)], args := [d1, d2] }
  | _ => none }
def LocksFirstWrongFalsely : Prop := locksFirstRow.holds Try.pinned (OpenSpec.ofChange locksFirstWrong)

/-- 'foremanlaw15.LocksApart': WHATEVER THE INPUT: true; the input reads as it did. -/
def locksApartSpec : ChangeSpec := { name := "locksApart", fn := fun _ => fun
  | [d] => { results := [.lit (.bool true)], args := [d] }
  | _ => none }
def locksApartRow : OpenClaim := { program := "ytcffmkphfahapaa", sum := "a0d32b3584b708a750a40aff5d4a02e03686d41ad7f8cdcdefa8dabbdf9bcfa8", func := "foreman/foremanlaw15.LocksApart", spec := "locksApart", unfollowed := true, recurses := true, apart := false }
def LocksApartSaid : Prop := locksApartRow.holds Try.pinned (OpenSpec.ofChange locksApartSpec)

/-- ITS FALSE NEIGHBOUR: 'it returns false'. Refute it at one input. -/
def locksApartWrong : ChangeSpec := { name := "locksApart", fn := fun _ => fun
  | [d] => { results := [.lit (.bool false)], args := [d] }
  | _ => none }
def LocksApartWrongFalsely : Prop := locksApartRow.holds Try.pinned (OpenSpec.ofChange locksApartWrong)

/-- 'foremanlaw15.LocksRead': WHATEVER THE INPUT: true; the input reads as it did. -/
def locksReadSpec : ChangeSpec := { name := "locksRead", fn := fun _ => fun
  | [d] => { results := [.lit (.bool true)], args := [d] }
  | _ => none }
def locksReadRow : OpenClaim := { program := "ytcffmkphfahapaa", sum := "a0d32b3584b708a750a40aff5d4a02e03686d41ad7f8cdcdefa8dabbdf9bcfa8", func := "foreman/foremanlaw15.LocksRead", spec := "locksRead", unfollowed := true, recurses := true, apart := false }
def LocksReadSaid : Prop := locksReadRow.holds Try.pinned (OpenSpec.ofChange locksReadSpec)

/-- ITS FALSE NEIGHBOUR: 'it returns false'. Refute it at one input. -/
def locksReadWrong : ChangeSpec := { name := "locksRead", fn := fun _ => fun
  | [d] => { results := [.lit (.bool false)], args := [d] }
  | _ => none }
def LocksReadWrongFalsely : Prop := locksReadRow.holds Try.pinned (OpenSpec.ofChange locksReadWrong)

/-- 'foremanlaw15.LocksMore': WHATEVER THE INPUT: true; the input reads as it did. -/
def locksMoreSpec : ChangeSpec := { name := "locksMore", fn := fun _ => fun
  | [d1, d2, d3] => { results := [.lit (.bool true)], args := [d1, d2, d3] }
  | _ => none }
def locksMoreRow : OpenClaim := { program := "ytcffmkphfahapaa", sum := "a0d32b3584b708a750a40aff5d4a02e03686d41ad7f8cdcdefa8dabbdf9bcfa8", func := "foreman/foremanlaw15.LocksMore", spec := "locksMore", unfollowed := true, recurses := true, apart := false }
def LocksMoreSaid : Prop := locksMoreRow.holds Try.pinned (OpenSpec.ofChange locksMoreSpec)

/-- ITS FALSE NEIGHBOUR: 'it returns false'. Refute it at one input. -/
def locksMoreWrong : ChangeSpec := { name := "locksMore", fn := fun _ => fun
  | [d1, d2, d3] => { results := [.lit (.bool false)], args := [d1, d2, d3] }
  | _ => none }
def LocksMoreWrongFalsely : Prop := locksMoreRow.holds Try.pinned (OpenSpec.ofChange locksMoreWrong)

/- THE SECOND FORM. 'bulk': how many values and letters a reading holds, each counted each time it is reached (what is shared counts as often as it is met; a slice's spare places count too). A statement '..UptoSaid' is the law's where the arguments, and the package variables that the reading takes, are together of bulk at most 1048576: NARROWER than '..Said'. Prove '..Said' where nothing that the law and all that it calls make is longer than what came in: it says more and counts as full. Else prove '..UptoSaid'. A law counts once. -/
mutual
def uptoBulk {H : Type} : DataW H → Nat
  | .lit (.string bytes) => bytes.length + 1
  | .lit _ => 1
  | .nil => 1
  | .ptr d => uptoBulk d + 1
  | .slice elems spare => uptoBulkAll elems + uptoBulkAll spare + 1
  | .agg parts => uptoBulkAll parts + 1
  | .iface _ d => uptoBulk d + 1
  | .map entries => uptoBulkEntries entries + 1
  | .held _ => 1
def uptoBulkAll {H : Type} : List (DataW H) → Nat
  | [] => 0
  | d :: r => uptoBulk d + uptoBulkAll r
def uptoBulkEntries {H : Type} : List (Lit × DataW H) → Nat
  | [] => 0
  | x :: r => uptoBulkEntry x + uptoBulkEntries r
def uptoBulkEntry {H : Type} : Lit × DataW H → Nat
  | (.string bytes, d) => bytes.length + uptoBulk d + 1
  | (_, d) => uptoBulk d + 1
 end
def uptoSmall : (H : Type) → List (DataW H) → Bool := fun _ ds => decide (uptoBulkAll ds ≤ 1048576)
def OpenSpec.upto (s : _root_.Go.ChangeSpec) : _root_.Go.OpenSpec := { _root_.Go.OpenSpec.ofChange s with cond := some uptoSmall }

/-- 'foremanlaw15.LocksPlays', WHERE WHAT IT READS IS OF BULK AT MOST 1048576: true; the input reads as it did. -/
def locksPlaysUptoRow : OpenClaim := { program := "ytcffmkphfahapaa", sum := "a0d32b3584b708a750a40aff5d4a02e03686d41ad7f8cdcdefa8dabbdf9bcfa8", func := "foreman/foremanlaw15.LocksPlays", spec := "locksPlays", unfollowed := true, recurses := true, apart := false, narrowed := true }
def LocksPlaysUptoSaid : Prop := locksPlaysUptoRow.holds Try.pinned (OpenSpec.upto locksPlaysSpec)

/-- 'foremanlaw15.LocksFirst', WHERE WHAT IT READS IS OF BULK AT MOST 1048576: true; the input reads as it did. -/
def locksFirstUptoRow : OpenClaim := { program := "ytcffmkphfahapaa", sum := "a0d32b3584b708a750a40aff5d4a02e03686d41ad7f8cdcdefa8dabbdf9bcfa8", func := "foreman/foremanlaw15.LocksFirst", spec := "locksFirst", unfollowed := true, recurses := true, apart := false, narrowed := true }
def LocksFirstUptoSaid : Prop := locksFirstUptoRow.holds Try.pinned (OpenSpec.upto locksFirstSpec)

/-- 'foremanlaw15.LocksApart', WHERE WHAT IT READS IS OF BULK AT MOST 1048576: true; the input reads as it did. -/
def locksApartUptoRow : OpenClaim := { program := "ytcffmkphfahapaa", sum := "a0d32b3584b708a750a40aff5d4a02e03686d41ad7f8cdcdefa8dabbdf9bcfa8", func := "foreman/foremanlaw15.LocksApart", spec := "locksApart", unfollowed := true, recurses := true, apart := false, narrowed := true }
def LocksApartUptoSaid : Prop := locksApartUptoRow.holds Try.pinned (OpenSpec.upto locksApartSpec)

/-- 'foremanlaw15.LocksRead', WHERE WHAT IT READS IS OF BULK AT MOST 1048576: true; the input reads as it did. -/
def locksReadUptoRow : OpenClaim := { program := "ytcffmkphfahapaa", sum := "a0d32b3584b708a750a40aff5d4a02e03686d41ad7f8cdcdefa8dabbdf9bcfa8", func := "foreman/foremanlaw15.LocksRead", spec := "locksRead", unfollowed := true, recurses := true, apart := false, narrowed := true }
def LocksReadUptoSaid : Prop := locksReadUptoRow.holds Try.pinned (OpenSpec.upto locksReadSpec)

/-- 'foremanlaw15.LocksMore', WHERE WHAT IT READS IS OF BULK AT MOST 1048576: true; the input reads as it did. -/
def locksMoreUptoRow : OpenClaim := { program := "ytcffmkphfahapaa", sum := "a0d32b3584b708a750a40aff5d4a02e03686d41ad7f8cdcdefa8dabbdf9bcfa8", func := "foreman/foremanlaw15.LocksMore", spec := "locksMore", unfollowed := true, recurses := true, apart := false, narrowed := true }
def LocksMoreUptoSaid : Prop := locksMoreUptoRow.holds Try.pinned (OpenSpec.upto locksMoreSpec)

end Rows
end Go.Proofs.Ytcffmkphfahapaa
