/-
  NARROWER THAN 'FOR EVERY INPUT', by the rows' own cells (each row's printed sentence says how): ProofMore: laid · ProofWays: laid · ProofTail: laid · ProofPlain: laid.
  DERIVED. THE GIVEN ROWS OF THIS SEAT. 4 by the template 'for every input the law returns true; each argument reads behind the call as it read before'; 0 by the template 'total and deterministic' (their statements: YtlhipaecndgonaaDoorTotals.lean).
  GIVEN WITH THE SEED: the statements are not yours to turn. If you find one false, say at which input.
  Laid BY PROGRAM, IN A SANDBOX (cutbox-rows.mjs): the forced cells as the released guide's own fill.sh prints them over the translation aee775577a7f175b… (all of the seat's roots in one cut). By AI agents, Wed Nov 11 2026. No macro, syntax, notation, axiom, sorry.
-/
import Derived.Test.YtlhipaecndgonaaDoorChecked
import GoSem.Claim
import GoSem.ClaimJoined
import GoSem.ClaimMapViews
import Derived.JoinedTies
import Derived.KernelRfl
namespace Go.Proofs.YtlhipaecndgonaaDoor
/- THE CELL 'sum', in the pinned program and in every row, IS THE sha256 OF THE DUMP (.gsa) THAT YtlhipaecndgonaaDoorProg.lean LOADS. Nothing in Lean hashes anything: it is a label: what it is worth is what the hold of that sum in a sandbox is worth. -/
noncomputable def Tryd.pinned : Pinned := { name := "ytlhipaecndgonaadoor", sum := "aee775577a7f175bb89c6ebc679e19b0cfa102ba7c8d10b77e9f7817b0025b50", checked := Tryd.checked }
namespace Rows
def none {H : Type} : Left H := { results := [], args := [] }

/- WHAT THE LISTED PACKAGE-LEVEL VARIABLES READ AS WHEN THE CALL BEGINS. Each datum BY PROGRAM (the guide's laid-datum.mjs) off the statement by which the dump's own 'gosem.cut.vars' lays the variable. In a bare row this is a premise. The card (YtlhipaecndgonaaDoorCards.lean) ties it to the program's text. -/
def laid_foreman_asm_kinds {H : Type} : DataW H := .agg [.agg [.lit (.string []), .lit (.int .i64 0)], .agg [.lit (.string [112, 117, 115, 104]), .lit (.int .i64 1)], .agg [.lit (.string [108, 111, 97, 100]), .lit (.int .i64 1)], .agg [.lit (.string [107, 101, 101, 112]), .lit (.int .i64 1)], .agg [.lit (.string [103, 101, 116]), .lit (.int .i64 2)], .agg [.lit (.string [112, 117, 116]), .lit (.int .i64 2)], .agg [.lit (.string [97, 114, 103]), .lit (.int .i64 1)], .agg [.lit (.string [97, 100, 100]), .lit (.int .i64 0)], .agg [.lit (.string [115, 117, 98]), .lit (.int .i64 0)], .agg [.lit (.string [109, 117, 108]), .lit (.int .i64 0)], .agg [.lit (.string [100, 105, 118]), .lit (.int .i64 0)], .agg [.lit (.string [108, 101, 115, 115]), .lit (.int .i64 0)], .agg [.lit (.string [115, 97, 109, 101]), .lit (.int .i64 0)], .agg [.lit (.string [115, 107, 105, 112]), .lit (.int .i64 1)], .agg [.lit (.string [103, 111]), .lit (.int .i64 1)], .agg [.lit (.string [101, 109, 105, 116]), .lit (.int .i64 0)], .agg [.lit (.string [115, 116, 111, 112]), .lit (.int .i64 0)], .agg [.lit (.string [101, 110, 100]), .lit (.int .i64 0)]]

/-- 'foremanlaw07.ProofMore': WHATEVER THE INPUT: true; the input reads as it did. -/
def proofMoreSpec : ChangeSpec := { name := "proofMore", fn := fun _ => fun
  | [d1, d2] => { results := [.lit (.bool true)], args := [d1, d2] }
  | _ => none }
def proofMoreRow : OpenClaim := { program := "ytlhipaecndgonaadoor", sum := "aee775577a7f175bb89c6ebc679e19b0cfa102ba7c8d10b77e9f7817b0025b50", func := "foreman/foremanlaw07.ProofMore", spec := "proofMore", unfollowed := true, recurses := true, named := ["foreman/asm.kinds"], apart := false, laid := [("foreman/asm.kinds", laid_foreman_asm_kinds)] }
def ProofMoreSaid : Prop := proofMoreRow.holds Tryd.pinned (OpenSpec.ofChange proofMoreSpec)

/-- ITS FALSE NEIGHBOUR: 'it returns false'. Refute it at one input. -/
def proofMoreWrong : ChangeSpec := { name := "proofMore", fn := fun _ => fun
  | [d1, d2] => { results := [.lit (.bool false)], args := [d1, d2] }
  | _ => none }
def ProofMoreWrongFalsely : Prop := proofMoreRow.holds Tryd.pinned (OpenSpec.ofChange proofMoreWrong)

/-- 'foremanlaw07.ProofWays': WHATEVER THE INPUT: true; the input reads as it did. -/
def proofWaysSpec : ChangeSpec := { name := "proofWays", fn := fun _ => fun
  | [d1, d2] => { results := [.lit (.bool true)], args := [d1, d2] }
  | _ => none }
def proofWaysRow : OpenClaim := { program := "ytlhipaecndgonaadoor", sum := "aee775577a7f175bb89c6ebc679e19b0cfa102ba7c8d10b77e9f7817b0025b50", func := "foreman/foremanlaw07.ProofWays", spec := "proofWays", unfollowed := true, recurses := true, named := ["foreman/asm.kinds"], apart := false, laid := [("foreman/asm.kinds", laid_foreman_asm_kinds)] }
def ProofWaysSaid : Prop := proofWaysRow.holds Tryd.pinned (OpenSpec.ofChange proofWaysSpec)

/-- ITS FALSE NEIGHBOUR: 'it returns false'. Refute it at one input. -/
def proofWaysWrong : ChangeSpec := { name := "proofWays", fn := fun _ => fun
  | [d1, d2] => { results := [.lit (.bool false)], args := [d1, d2] }
  | _ => none }
def ProofWaysWrongFalsely : Prop := proofWaysRow.holds Tryd.pinned (OpenSpec.ofChange proofWaysWrong)

/-- 'foremanlaw07.ProofTail': WHATEVER THE INPUT: true; the input reads as it did. -/
def proofTailSpec : ChangeSpec := { name := "proofTail", fn := fun _ => fun
  | [d] => { results := [.lit (.bool true)], args := [d] }
  | _ => none }
def proofTailRow : OpenClaim := { program := "ytlhipaecndgonaadoor", sum := "aee775577a7f175bb89c6ebc679e19b0cfa102ba7c8d10b77e9f7817b0025b50", func := "foreman/foremanlaw07.ProofTail", spec := "proofTail", unfollowed := true, recurses := true, named := ["foreman/asm.kinds"], apart := false, laid := [("foreman/asm.kinds", laid_foreman_asm_kinds)] }
def ProofTailSaid : Prop := proofTailRow.holds Tryd.pinned (OpenSpec.ofChange proofTailSpec)

/-- ITS FALSE NEIGHBOUR: 'it returns false'. Refute it at one input. -/
def proofTailWrong : ChangeSpec := { name := "proofTail", fn := fun _ => fun
  | [d] => { results := [.lit (.bool false)], args := [d] }
  | _ => none }
def ProofTailWrongFalsely : Prop := proofTailRow.holds Tryd.pinned (OpenSpec.ofChange proofTailWrong)

/-- 'foremanlaw07.ProofPlain': WHATEVER THE INPUT: true; the input reads as it did. -/
def proofPlainSpec : ChangeSpec := { name := "proofPlain", fn := fun _ => fun
  | [d] => { results := [.lit (.bool true)], args := [d] }
  | _ => none }
def proofPlainRow : OpenClaim := { program := "ytlhipaecndgonaadoor", sum := "aee775577a7f175bb89c6ebc679e19b0cfa102ba7c8d10b77e9f7817b0025b50", func := "foreman/foremanlaw07.ProofPlain", spec := "proofPlain", unfollowed := true, recurses := true, named := ["foreman/asm.kinds"], apart := false, laid := [("foreman/asm.kinds", laid_foreman_asm_kinds)] }
def ProofPlainSaid : Prop := proofPlainRow.holds Tryd.pinned (OpenSpec.ofChange proofPlainSpec)

/-- ITS FALSE NEIGHBOUR: 'it returns false'. Refute it at one input. -/
def proofPlainWrong : ChangeSpec := { name := "proofPlain", fn := fun _ => fun
  | [d] => { results := [.lit (.bool false)], args := [d] }
  | _ => none }
def ProofPlainWrongFalsely : Prop := proofPlainRow.holds Tryd.pinned (OpenSpec.ofChange proofPlainWrong)

/- THE SECOND FORM. 'bulk': how many values and letters a reading holds, each counted each time it is reached (what is shared counts as often as it is met; a slice's spare places count too). A statement '..UptoSaid' is the law's where the arguments, and the package variables that the reading takes, are together of bulk at most 1048576: NARROWER than '..Said'. Prove '..Said' where nothing that the law and all that it calls make is longer than what came in: it says more and counts as full. Else prove '..UptoSaid'. A law counts once. -/
mutual
def uptoBulk {H : Type} : DataW H → Nat
  | .lit (.string bytes) => bytes.length + 1
  | .lit _ => 1
  | .nil => 1
  | .ptr d => uptoBulk d + 1
  | .slice elems spare => uptoBulkAll elems + uptoBulkAll spare + 1
  | .agg parts => uptoBulkAll parts + 1
  | .iface _ d => uptoBulk d + 1
  | .map entries => uptoBulkEntries entries + 1
  | .held _ => 1
def uptoBulkAll {H : Type} : List (DataW H) → Nat
  | [] => 0
  | d :: r => uptoBulk d + uptoBulkAll r
def uptoBulkEntries {H : Type} : List (Lit × DataW H) → Nat
  | [] => 0
  | x :: r => uptoBulkEntry x + uptoBulkEntries r
def uptoBulkEntry {H : Type} : Lit × DataW H → Nat
  | (.string bytes, d) => bytes.length + uptoBulk d + 1
  | (_, d) => uptoBulk d + 1
 end
def uptoSmall : (H : Type) → List (DataW H) → Bool := fun _ ds => decide (uptoBulkAll ds ≤ 1048576)
def OpenSpec.upto (s : _root_.Go.ChangeSpec) : _root_.Go.OpenSpec := { _root_.Go.OpenSpec.ofChange s with cond := some uptoSmall }

/-- 'foremanlaw07.ProofMore', WHERE WHAT IT READS IS OF BULK AT MOST 1048576: true; the input reads as it did. -/
def proofMoreUptoRow : OpenClaim := { program := "ytlhipaecndgonaadoor", sum := "aee775577a7f175bb89c6ebc679e19b0cfa102ba7c8d10b77e9f7817b0025b50", func := "foreman/foremanlaw07.ProofMore", spec := "proofMore", unfollowed := true, recurses := true, named := ["foreman/asm.kinds"], apart := false, laid := [("foreman/asm.kinds", laid_foreman_asm_kinds)], narrowed := true }
def ProofMoreUptoSaid : Prop := proofMoreUptoRow.holds Tryd.pinned (OpenSpec.upto proofMoreSpec)

/-- 'foremanlaw07.ProofWays', WHERE WHAT IT READS IS OF BULK AT MOST 1048576: true; the input reads as it did. -/
def proofWaysUptoRow : OpenClaim := { program := "ytlhipaecndgonaadoor", sum := "aee775577a7f175bb89c6ebc679e19b0cfa102ba7c8d10b77e9f7817b0025b50", func := "foreman/foremanlaw07.ProofWays", spec := "proofWays", unfollowed := true, recurses := true, named := ["foreman/asm.kinds"], apart := false, laid := [("foreman/asm.kinds", laid_foreman_asm_kinds)], narrowed := true }
def ProofWaysUptoSaid : Prop := proofWaysUptoRow.holds Tryd.pinned (OpenSpec.upto proofWaysSpec)

/-- 'foremanlaw07.ProofTail', WHERE WHAT IT READS IS OF BULK AT MOST 1048576: true; the input reads as it did. -/
def proofTailUptoRow : OpenClaim := { program := "ytlhipaecndgonaadoor", sum := "aee775577a7f175bb89c6ebc679e19b0cfa102ba7c8d10b77e9f7817b0025b50", func := "foreman/foremanlaw07.ProofTail", spec := "proofTail", unfollowed := true, recurses := true, named := ["foreman/asm.kinds"], apart := false, laid := [("foreman/asm.kinds", laid_foreman_asm_kinds)], narrowed := true }
def ProofTailUptoSaid : Prop := proofTailUptoRow.holds Tryd.pinned (OpenSpec.upto proofTailSpec)

/-- 'foremanlaw07.ProofPlain', WHERE WHAT IT READS IS OF BULK AT MOST 1048576: true; the input reads as it did. -/
def proofPlainUptoRow : OpenClaim := { program := "ytlhipaecndgonaadoor", sum := "aee775577a7f175bb89c6ebc679e19b0cfa102ba7c8d10b77e9f7817b0025b50", func := "foreman/foremanlaw07.ProofPlain", spec := "proofPlain", unfollowed := true, recurses := true, named := ["foreman/asm.kinds"], apart := false, laid := [("foreman/asm.kinds", laid_foreman_asm_kinds)], narrowed := true }
def ProofPlainUptoSaid : Prop := proofPlainUptoRow.holds Tryd.pinned (OpenSpec.upto proofPlainSpec)

end Rows
end Go.Proofs.YtlhipaecndgonaaDoor
