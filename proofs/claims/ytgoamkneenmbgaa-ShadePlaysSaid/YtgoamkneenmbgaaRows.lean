/-
  No cell of these rows narrows 'for every input' (looked for: loops, veiled, ifaces, maps, wideKeys, modest, calm, conditions, laid).
  DERIVED. THE GIVEN ROWS OF THIS SEAT. 4 by the template 'for every input the law returns true; each argument reads behind the call as it read before'; 0 by the template 'total and deterministic' (their statements: YtgoamkneenmbgaaTotals.lean).
  GIVEN WITH THE SEED: the statements are not yours to turn. If you find one false, say at which input.
  Laid BY PROGRAM, IN A SANDBOX (cutbox-rows.mjs): the forced cells as the released guide's own fill.sh prints them over the translation 37e6333eab6ba59b… (all of the seat's roots in one cut). By AI agents, Wed Nov 11 2026. No macro, syntax, notation, axiom, sorry.
-/
import Derived.Test.YtgoamkneenmbgaaChecked
import GoSem.Claim
import GoSem.ClaimJoined
import GoSem.ClaimMapViews
import Derived.JoinedTies
import Derived.KernelRfl
namespace Go.Proofs.Ytgoamkneenmbgaa
/- THE CELL 'sum', in the pinned program and in every row, IS THE sha256 OF THE DUMP (.gsa) THAT YtgoamkneenmbgaaProg.lean LOADS. Nothing in Lean hashes anything: it is a label: what it is worth is what the hold of that sum in a sandbox is worth. -/
noncomputable def Try.pinned : Pinned := { name := "ytgoamkneenmbgaa", sum := "37e6333eab6ba59b823f386728a45996e2433512e6a37bee3afc6a490034970c", checked := Try.checked }
namespace Rows
def none {H : Type} : Left H := { results := [], args := [] }

/-- 'foremanlaw13.ShadePlays': WHATEVER THE INPUT: true; the input reads as it did. -/
def shadePlaysSpec : ChangeSpec := { name := "shadePlays", fn := fun _ => fun
  | [d1, d2, d3] => { results := [.lit (.bool true)], args := [d1, d2, d3] }
  | _ => none }
def shadePlaysRow : OpenClaim := { program := "ytgoamkneenmbgaa", sum := "37e6333eab6ba59b823f386728a45996e2433512e6a37bee3afc6a490034970c", func := "foreman/foremanlaw13.ShadePlays", spec := "shadePlays", apart := false }
def ShadePlaysSaid : Prop := shadePlaysRow.holds Try.pinned (OpenSpec.ofChange shadePlaysSpec)

/-- ITS FALSE NEIGHBOUR: 'it returns false'. Refute it at one input. -/
def shadePlaysWrong : ChangeSpec := { name := "shadePlays", fn := fun _ => fun
  | [d1, d2, d3] => { results := [.lit (.bool false)], args := [d1, d2, d3] }
  | _ => none }
def ShadePlaysWrongFalsely : Prop := shadePlaysRow.holds Try.pinned (OpenSpec.ofChange shadePlaysWrong)

/-- 'foremanlaw13.ShadeSees': WHATEVER THE INPUT: true; the input reads as it did. -/
def shadeSeesSpec : ChangeSpec := { name := "shadeSees", fn := fun _ => fun
  | [d1, d2] => { results := [.lit (.bool true)], args := [d1, d2] }
  | _ => none }
def shadeSeesRow : OpenClaim := { program := "ytgoamkneenmbgaa", sum := "37e6333eab6ba59b823f386728a45996e2433512e6a37bee3afc6a490034970c", func := "foreman/foremanlaw13.ShadeSees", spec := "shadeSees", apart := false }
def ShadeSeesSaid : Prop := shadeSeesRow.holds Try.pinned (OpenSpec.ofChange shadeSeesSpec)

/-- ITS FALSE NEIGHBOUR: 'it returns false'. Refute it at one input. -/
def shadeSeesWrong : ChangeSpec := { name := "shadeSees", fn := fun _ => fun
  | [d1, d2] => { results := [.lit (.bool false)], args := [d1, d2] }
  | _ => none }
def ShadeSeesWrongFalsely : Prop := shadeSeesRow.holds Try.pinned (OpenSpec.ofChange shadeSeesWrong)

/-- 'foremanlaw13.ShadeOff': WHATEVER THE INPUT: true; the input reads as it did. -/
def shadeOffSpec : ChangeSpec := { name := "shadeOff", fn := fun _ => fun
  | [d1, d2] => { results := [.lit (.bool true)], args := [d1, d2] }
  | _ => none }
def shadeOffRow : OpenClaim := { program := "ytgoamkneenmbgaa", sum := "37e6333eab6ba59b823f386728a45996e2433512e6a37bee3afc6a490034970c", func := "foreman/foremanlaw13.ShadeOff", spec := "shadeOff", apart := false }
def ShadeOffSaid : Prop := shadeOffRow.holds Try.pinned (OpenSpec.ofChange shadeOffSpec)

/-- ITS FALSE NEIGHBOUR: 'it returns false'. Refute it at one input. -/
def shadeOffWrong : ChangeSpec := { name := "shadeOff", fn := fun _ => fun
  | [d1, d2] => { results := [.lit (.bool false)], args := [d1, d2] }
  | _ => none }
def ShadeOffWrongFalsely : Prop := shadeOffRow.holds Try.pinned (OpenSpec.ofChange shadeOffWrong)

/-- 'foremanlaw13.ShadeOnce': WHATEVER THE INPUT: true; the input reads as it did. -/
def shadeOnceSpec : ChangeSpec := { name := "shadeOnce", fn := fun _ => fun
  | [d1, d2, d3] => { results := [.lit (.bool true)], args := [d1, d2, d3] }
  | _ => none }
def shadeOnceRow : OpenClaim := { program := "ytgoamkneenmbgaa", sum := "37e6333eab6ba59b823f386728a45996e2433512e6a37bee3afc6a490034970c", func := "foreman/foremanlaw13.ShadeOnce", spec := "shadeOnce", apart := false }
def ShadeOnceSaid : Prop := shadeOnceRow.holds Try.pinned (OpenSpec.ofChange shadeOnceSpec)

/-- ITS FALSE NEIGHBOUR: 'it returns false'. Refute it at one input. -/
def shadeOnceWrong : ChangeSpec := { name := "shadeOnce", fn := fun _ => fun
  | [d1, d2, d3] => { results := [.lit (.bool false)], args := [d1, d2, d3] }
  | _ => none }
def ShadeOnceWrongFalsely : Prop := shadeOnceRow.holds Try.pinned (OpenSpec.ofChange shadeOnceWrong)

/- THE SECOND FORM. 'bulk': how many values and letters a reading holds, each counted each time it is reached (what is shared counts as often as it is met; a slice's spare places count too). A statement '..UptoSaid' is the law's where the arguments, and the package variables that the reading takes, are together of bulk at most 1048576: NARROWER than '..Said'. Prove '..Said' where nothing that the law and all that it calls make is longer than what came in: it says more and counts as full. Else prove '..UptoSaid'. A law counts once. -/
mutual
def uptoBulk {H : Type} : DataW H → Nat
  | .lit (.string bytes) => bytes.length + 1
  | .lit _ => 1
  | .nil => 1
  | .ptr d => uptoBulk d + 1
  | .slice elems spare => uptoBulkAll elems + uptoBulkAll spare + 1
  | .agg parts => uptoBulkAll parts + 1
  | .iface _ d => uptoBulk d + 1
  | .map entries => uptoBulkEntries entries + 1
  | .held _ => 1
def uptoBulkAll {H : Type} : List (DataW H) → Nat
  | [] => 0
  | d :: r => uptoBulk d + uptoBulkAll r
def uptoBulkEntries {H : Type} : List (Lit × DataW H) → Nat
  | [] => 0
  | x :: r => uptoBulkEntry x + uptoBulkEntries r
def uptoBulkEntry {H : Type} : Lit × DataW H → Nat
  | (.string bytes, d) => bytes.length + uptoBulk d + 1
  | (_, d) => uptoBulk d + 1
 end
def uptoSmall : (H : Type) → List (DataW H) → Bool := fun _ ds => decide (uptoBulkAll ds ≤ 1048576)
def OpenSpec.upto (s : _root_.Go.ChangeSpec) : _root_.Go.OpenSpec := { _root_.Go.OpenSpec.ofChange s with cond := some uptoSmall }

/-- 'foremanlaw13.ShadePlays', WHERE WHAT IT READS IS OF BULK AT MOST 1048576: true; the input reads as it did. -/
def shadePlaysUptoRow : OpenClaim := { program := "ytgoamkneenmbgaa", sum := "37e6333eab6ba59b823f386728a45996e2433512e6a37bee3afc6a490034970c", func := "foreman/foremanlaw13.ShadePlays", spec := "shadePlays", apart := false, narrowed := true }
def ShadePlaysUptoSaid : Prop := shadePlaysUptoRow.holds Try.pinned (OpenSpec.upto shadePlaysSpec)

/-- 'foremanlaw13.ShadeSees', WHERE WHAT IT READS IS OF BULK AT MOST 1048576: true; the input reads as it did. -/
def shadeSeesUptoRow : OpenClaim := { program := "ytgoamkneenmbgaa", sum := "37e6333eab6ba59b823f386728a45996e2433512e6a37bee3afc6a490034970c", func := "foreman/foremanlaw13.ShadeSees", spec := "shadeSees", apart := false, narrowed := true }
def ShadeSeesUptoSaid : Prop := shadeSeesUptoRow.holds Try.pinned (OpenSpec.upto shadeSeesSpec)

/-- 'foremanlaw13.ShadeOff', WHERE WHAT IT READS IS OF BULK AT MOST 1048576: true; the input reads as it did. -/
def shadeOffUptoRow : OpenClaim := { program := "ytgoamkneenmbgaa", sum := "37e6333eab6ba59b823f386728a45996e2433512e6a37bee3afc6a490034970c", func := "foreman/foremanlaw13.ShadeOff", spec := "shadeOff", apart := false, narrowed := true }
def ShadeOffUptoSaid : Prop := shadeOffUptoRow.holds Try.pinned (OpenSpec.upto shadeOffSpec)

/-- 'foremanlaw13.ShadeOnce', WHERE WHAT IT READS IS OF BULK AT MOST 1048576: true; the input reads as it did. -/
def shadeOnceUptoRow : OpenClaim := { program := "ytgoamkneenmbgaa", sum := "37e6333eab6ba59b823f386728a45996e2433512e6a37bee3afc6a490034970c", func := "foreman/foremanlaw13.ShadeOnce", spec := "shadeOnce", apart := false, narrowed := true }
def ShadeOnceUptoSaid : Prop := shadeOnceUptoRow.holds Try.pinned (OpenSpec.upto shadeOnceSpec)

end Rows
end Go.Proofs.Ytgoamkneenmbgaa
