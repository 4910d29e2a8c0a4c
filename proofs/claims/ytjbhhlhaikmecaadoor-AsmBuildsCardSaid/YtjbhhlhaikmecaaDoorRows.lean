/-
  NARROWER THAN 'FOR EVERY INPUT', by the rows' own cells (each row's printed sentence says how): AsmBuilds: laid · AsmTells: laid · AsmAgain: laid · AsmWords: laid · AsmNotes: laid.
  DERIVED. THE GIVEN ROWS OF THIS SEAT. 5 by the template 'for every input the law returns true; each argument reads behind the call as it read before'; 0 by the template 'total and deterministic' (their statements: YtjbhhlhaikmecaaDoorTotals.lean).
  GIVEN WITH THE SEED: the statements are not yours to turn. If you find one false, say at which input.
  Laid BY PROGRAM, IN A SANDBOX (cutbox-rows.mjs): the forced cells as the released guide's own fill.sh prints them over the translation 3ff848c665356eed… (all of the seat's roots in one cut). By AI agents, Wed Nov 11 2026. No macro, syntax, notation, axiom, sorry.
-/
import Derived.Test.YtjbhhlhaikmecaaDoorChecked
import GoSem.Claim
import GoSem.ClaimJoined
import GoSem.ClaimMapViews
import Derived.JoinedTies
import Derived.KernelRfl
namespace Go.Proofs.YtjbhhlhaikmecaaDoor
/- THE CELL 'sum', in the pinned program and in every row, IS THE sha256 OF THE DUMP (.gsa) THAT YtjbhhlhaikmecaaDoorProg.lean LOADS. Nothing in Lean hashes anything: it is a label: what it is worth is what the hold of that sum in a sandbox is worth. -/
noncomputable def Tryd.pinned : Pinned := { name := "ytjbhhlhaikmecaadoor", sum := "3ff848c665356eedd535fb5743d471abc409822a66d8b2704bd4973d001cf450", checked := Tryd.checked }
namespace Rows
def none {H : Type} : Left H := { results := [], args := [] }

/- WHAT THE LISTED PACKAGE-LEVEL VARIABLES READ AS WHEN THE CALL BEGINS. Each datum BY PROGRAM (the guide's laid-datum.mjs) off the statement by which the dump's own 'gosem.cut.vars' lays the variable. In a bare row this is a premise. The card (YtjbhhlhaikmecaaDoorCards.lean) ties it to the program's text. -/
def laid_math_bits_deBruijn32tab {H : Type} : DataW H := .agg [.lit (.int .u8 0), .lit (.int .u8 1), .lit (.int .u8 28), .lit (.int .u8 2), .lit (.int .u8 29), .lit (.int .u8 14), .lit (.int .u8 24), .lit (.int .u8 3), .lit (.int .u8 30), .lit (.int .u8 22), .lit (.int .u8 20), .lit (.int .u8 15), .lit (.int .u8 25), .lit (.int .u8 17), .lit (.int .u8 4), .lit (.int .u8 8), .lit (.int .u8 31), .lit (.int .u8 27), .lit (.int .u8 13), .lit (.int .u8 23), .lit (.int .u8 21), .lit (.int .u8 19), .lit (.int .u8 16), .lit (.int .u8 7), .lit (.int .u8 26), .lit (.int .u8 12), .lit (.int .u8 18), .lit (.int .u8 6), .lit (.int .u8 11), .lit (.int .u8 5), .lit (.int .u8 10), .lit (.int .u8 9)]
def laid_math_bits_deBruijn64tab {H : Type} : DataW H := .agg [.lit (.int .u8 0), .lit (.int .u8 1), .lit (.int .u8 56), .lit (.int .u8 2), .lit (.int .u8 57), .lit (.int .u8 49), .lit (.int .u8 28), .lit (.int .u8 3), .lit (.int .u8 61), .lit (.int .u8 58), .lit (.int .u8 42), .lit (.int .u8 50), .lit (.int .u8 38), .lit (.int .u8 29), .lit (.int .u8 17), .lit (.int .u8 4), .lit (.int .u8 62), .lit (.int .u8 47), .lit (.int .u8 59), .lit (.int .u8 36), .lit (.int .u8 45), .lit (.int .u8 43), .lit (.int .u8 51), .lit (.int .u8 22), .lit (.int .u8 53), .lit (.int .u8 39), .lit (.int .u8 33), .lit (.int .u8 30), .lit (.int .u8 24), .lit (.int .u8 18), .lit (.int .u8 12), .lit (.int .u8 5), .lit (.int .u8 63), .lit (.int .u8 55), .lit (.int .u8 48), .lit (.int .u8 27), .lit (.int .u8 60), .lit (.int .u8 41), .lit (.int .u8 37), .lit (.int .u8 16), .lit (.int .u8 46), .lit (.int .u8 35), .lit (.int .u8 44), .lit (.int .u8 21), .lit (.int .u8 52), .lit (.int .u8 32), .lit (.int .u8 23), .lit (.int .u8 11), .lit (.int .u8 54), .lit (.int .u8 26), .lit (.int .u8 40), .lit (.int .u8 15), .lit (.int .u8 34), .lit (.int .u8 20), .lit (.int .u8 31), .lit (.int .u8 10), .lit (.int .u8 25), .lit (.int .u8 14), .lit (.int .u8 19), .lit (.int .u8 9), .lit (.int .u8 13), .lit (.int .u8 8), .lit (.int .u8 7), .lit (.int .u8 6)]
def laid_internal_strconv_uint64pow10 {H : Type} : DataW H := .agg [.lit (.int .u64 1), .lit (.int .u64 10), .lit (.int .u64 100), .lit (.int .u64 1000), .lit (.int .u64 10000), .lit (.int .u64 100000), .lit (.int .u64 1000000), .lit (.int .u64 10000000), .lit (.int .u64 100000000), .lit (.int .u64 1000000000), .lit (.int .u64 10000000000), .lit (.int .u64 100000000000), .lit (.int .u64 1000000000000), .lit (.int .u64 10000000000000), .lit (.int .u64 100000000000000), .lit (.int .u64 1000000000000000), .lit (.int .u64 10000000000000000), .lit (.int .u64 100000000000000000), .lit (.int .u64 1000000000000000000), .lit (.int .u64 10000000000000000000)]
def laid_foreman_asm_kinds {H : Type} : DataW H := .agg [.agg [.lit (.string []), .lit (.int .i64 0)], .agg [.lit (.string [112, 117, 115, 104]), .lit (.int .i64 1)], .agg [.lit (.string [108, 111, 97, 100]), .lit (.int .i64 1)], .agg [.lit (.string [107, 101, 101, 112]), .lit (.int .i64 1)], .agg [.lit (.string [103, 101, 116]), .lit (.int .i64 2)], .agg [.lit (.string [112, 117, 116]), .lit (.int .i64 2)], .agg [.lit (.string [97, 114, 103]), .lit (.int .i64 1)], .agg [.lit (.string [97, 100, 100]), .lit (.int .i64 0)], .agg [.lit (.string [115, 117, 98]), .lit (.int .i64 0)], .agg [.lit (.string [109, 117, 108]), .lit (.int .i64 0)], .agg [.lit (.string [100, 105, 118]), .lit (.int .i64 0)], .agg [.lit (.string [108, 101, 115, 115]), .lit (.int .i64 0)], .agg [.lit (.string [115, 97, 109, 101]), .lit (.int .i64 0)], .agg [.lit (.string [115, 107, 105, 112]), .lit (.int .i64 1)], .agg [.lit (.string [103, 111]), .lit (.int .i64 1)], .agg [.lit (.string [101, 109, 105, 116]), .lit (.int .i64 0)], .agg [.lit (.string [115, 116, 111, 112]), .lit (.int .i64 0)], .agg [.lit (.string [101, 110, 100]), .lit (.int .i64 0)]]

/-- 'foremanlaw05.AsmBuilds': WHATEVER THE INPUT: true; the input reads as it did. -/
def asmBuildsSpec : ChangeSpec := { name := "asmBuilds", fn := fun _ => fun
  | [d1, d2] => { results := [.lit (.bool true)], args := [d1, d2] }
  | _ => none }
def asmBuildsRow : OpenClaim := { program := "ytjbhhlhaikmecaadoor", sum := "3ff848c665356eedd535fb5743d471abc409822a66d8b2704bd4973d001cf450", func := "foreman/foremanlaw05.AsmBuilds", spec := "asmBuilds", inPlace := ["internal/abi.NoEscape"], named := ["foreman/asm.kinds", "internal/strconv.uint64pow10", "math/bits.deBruijn32tab", "math/bits.deBruijn64tab"], apart := false, laid := [("math/bits.deBruijn32tab", laid_math_bits_deBruijn32tab), ("math/bits.deBruijn64tab", laid_math_bits_deBruijn64tab), ("internal/strconv.uint64pow10", laid_internal_strconv_uint64pow10), ("foreman/asm.kinds", laid_foreman_asm_kinds)] }
def AsmBuildsSaid : Prop := asmBuildsRow.holds Tryd.pinned (OpenSpec.ofChange asmBuildsSpec)

/-- ITS FALSE NEIGHBOUR: 'it returns false'. Refute it at one input. -/
def asmBuildsWrong : ChangeSpec := { name := "asmBuilds", fn := fun _ => fun
  | [d1, d2] => { results := [.lit (.bool false)], args := [d1, d2] }
  | _ => none }
def AsmBuildsWrongFalsely : Prop := asmBuildsRow.holds Tryd.pinned (OpenSpec.ofChange asmBuildsWrong)

/-- 'foremanlaw05.AsmTells': WHATEVER THE INPUT: true; the input reads as it did. -/
def asmTellsSpec : ChangeSpec := { name := "asmTells", fn := fun _ => fun
  | [d] => { results := [.lit (.bool true)], args := [d] }
  | _ => none }
def asmTellsRow : OpenClaim := { program := "ytjbhhlhaikmecaadoor", sum := "3ff848c665356eedd535fb5743d471abc409822a66d8b2704bd4973d001cf450", func := "foreman/foremanlaw05.AsmTells", spec := "asmTells", inPlace := ["internal/abi.NoEscape"], recurses := true, named := ["foreman/asm.kinds", "internal/strconv.uint64pow10", "math/bits.deBruijn32tab", "math/bits.deBruijn64tab"], apart := false, laid := [("math/bits.deBruijn32tab", laid_math_bits_deBruijn32tab), ("math/bits.deBruijn64tab", laid_math_bits_deBruijn64tab), ("internal/strconv.uint64pow10", laid_internal_strconv_uint64pow10), ("foreman/asm.kinds", laid_foreman_asm_kinds)] }
def AsmTellsSaid : Prop := asmTellsRow.holds Tryd.pinned (OpenSpec.ofChange asmTellsSpec)

/-- ITS FALSE NEIGHBOUR: 'it returns false'. Refute it at one input. -/
def asmTellsWrong : ChangeSpec := { name := "asmTells", fn := fun _ => fun
  | [d] => { results := [.lit (.bool false)], args := [d] }
  | _ => none }
def AsmTellsWrongFalsely : Prop := asmTellsRow.holds Tryd.pinned (OpenSpec.ofChange asmTellsWrong)

/-- 'foremanlaw05.AsmAgain': WHATEVER THE INPUT: true; the input reads as it did. -/
def asmAgainSpec : ChangeSpec := { name := "asmAgain", fn := fun _ => fun
  | [d] => { results := [.lit (.bool true)], args := [d] }
  | _ => none }
def asmAgainRow : OpenClaim := { program := "ytjbhhlhaikmecaadoor", sum := "3ff848c665356eedd535fb5743d471abc409822a66d8b2704bd4973d001cf450", func := "foreman/foremanlaw05.AsmAgain", spec := "asmAgain", inPlace := ["internal/abi.NoEscape"], named := ["foreman/asm.kinds", "internal/strconv.uint64pow10", "math/bits.deBruijn32tab", "math/bits.deBruijn64tab"], apart := false, laid := [("math/bits.deBruijn32tab", laid_math_bits_deBruijn32tab), ("math/bits.deBruijn64tab", laid_math_bits_deBruijn64tab), ("internal/strconv.uint64pow10", laid_internal_strconv_uint64pow10), ("foreman/asm.kinds", laid_foreman_asm_kinds)] }
def AsmAgainSaid : Prop := asmAgainRow.holds Tryd.pinned (OpenSpec.ofChange asmAgainSpec)

/-- ITS FALSE NEIGHBOUR: 'it returns false'. Refute it at one input. -/
def asmAgainWrong : ChangeSpec := { name := "asmAgain", fn := fun _ => fun
  | [d] => { results := [.lit (.bool false)], args := [d] }
  | _ => none }
def AsmAgainWrongFalsely : Prop := asmAgainRow.holds Tryd.pinned (OpenSpec.ofChange asmAgainWrong)

/-- 'foremanlaw05.AsmWords': WHATEVER THE INPUT: true; the input reads as it did. -/
def asmWordsSpec : ChangeSpec := { name := "asmWords", fn := fun _ => fun
  | [d1, d2] => { results := [.lit (.bool true)], args := [d1, d2] }
  | _ => none }
def asmWordsRow : OpenClaim := { program := "ytjbhhlhaikmecaadoor", sum := "3ff848c665356eedd535fb5743d471abc409822a66d8b2704bd4973d001cf450", func := "foreman/foremanlaw05.AsmWords", spec := "asmWords", inPlace := ["internal/abi.NoEscape"], named := ["foreman/asm.kinds", "internal/strconv.uint64pow10", "math/bits.deBruijn32tab", "math/bits.deBruijn64tab"], apart := false, laid := [("math/bits.deBruijn32tab", laid_math_bits_deBruijn32tab), ("math/bits.deBruijn64tab", laid_math_bits_deBruijn64tab), ("internal/strconv.uint64pow10", laid_internal_strconv_uint64pow10), ("foreman/asm.kinds", laid_foreman_asm_kinds)] }
def AsmWordsSaid : Prop := asmWordsRow.holds Tryd.pinned (OpenSpec.ofChange asmWordsSpec)

/-- ITS FALSE NEIGHBOUR: 'it returns false'. Refute it at one input. -/
def asmWordsWrong : ChangeSpec := { name := "asmWords", fn := fun _ => fun
  | [d1, d2] => { results := [.lit (.bool false)], args := [d1, d2] }
  | _ => none }
def AsmWordsWrongFalsely : Prop := asmWordsRow.holds Tryd.pinned (OpenSpec.ofChange asmWordsWrong)

/-- 'foremanlaw05.AsmNotes': WHATEVER THE INPUT: true; the input reads as it did. -/
def asmNotesSpec : ChangeSpec := { name := "asmNotes", fn := fun _ => fun
  | [d] => { results := [.lit (.bool true)], args := [d] }
  | _ => none }
def asmNotesRow : OpenClaim := { program := "ytjbhhlhaikmecaadoor", sum := "3ff848c665356eedd535fb5743d471abc409822a66d8b2704bd4973d001cf450", func := "foreman/foremanlaw05.AsmNotes", spec := "asmNotes", inPlace := ["internal/abi.NoEscape"], named := ["foreman/asm.kinds", "internal/strconv.uint64pow10", "math/bits.deBruijn32tab", "math/bits.deBruijn64tab"], apart := false, laid := [("math/bits.deBruijn32tab", laid_math_bits_deBruijn32tab), ("math/bits.deBruijn64tab", laid_math_bits_deBruijn64tab), ("internal/strconv.uint64pow10", laid_internal_strconv_uint64pow10), ("foreman/asm.kinds", laid_foreman_asm_kinds)] }
def AsmNotesSaid : Prop := asmNotesRow.holds Tryd.pinned (OpenSpec.ofChange asmNotesSpec)

/-- ITS FALSE NEIGHBOUR: 'it returns false'. Refute it at one input. -/
def asmNotesWrong : ChangeSpec := { name := "asmNotes", fn := fun _ => fun
  | [d] => { results := [.lit (.bool false)], args := [d] }
  | _ => none }
def AsmNotesWrongFalsely : Prop := asmNotesRow.holds Tryd.pinned (OpenSpec.ofChange asmNotesWrong)

/- THE SECOND FORM. 'bulk': how many values and letters a reading holds, each counted each time it is reached (what is shared counts as often as it is met; a slice's spare places count too). A statement '..UptoSaid' is the law's where the arguments, and the package variables that the reading takes, are together of bulk at most 1048576: NARROWER than '..Said'. Prove '..Said' where nothing that the law and all that it calls make is longer than what came in: it says more and counts as full. Else prove '..UptoSaid'. A law counts once. -/
mutual
def uptoBulk {H : Type} : DataW H → Nat
  | .lit (.string bytes) => bytes.length + 1
  | .lit _ => 1
  | .nil => 1
  | .ptr d => uptoBulk d + 1
  | .slice elems spare => uptoBulkAll elems + uptoBulkAll spare + 1
  | .agg parts => uptoBulkAll parts + 1
  | .iface _ d => uptoBulk d + 1
  | .map entries => uptoBulkEntries entries + 1
  | .held _ => 1
def uptoBulkAll {H : Type} : List (DataW H) → Nat
  | [] => 0
  | d :: r => uptoBulk d + uptoBulkAll r
def uptoBulkEntries {H : Type} : List (Lit × DataW H) → Nat
  | [] => 0
  | x :: r => uptoBulkEntry x + uptoBulkEntries r
def uptoBulkEntry {H : Type} : Lit × DataW H → Nat
  | (.string bytes, d) => bytes.length + uptoBulk d + 1
  | (_, d) => uptoBulk d + 1
 end
def uptoSmall : (H : Type) → List (DataW H) → Bool := fun _ ds => decide (uptoBulkAll ds ≤ 1048576)
def OpenSpec.upto (s : _root_.Go.ChangeSpec) : _root_.Go.OpenSpec := { _root_.Go.OpenSpec.ofChange s with cond := some uptoSmall }

/-- 'foremanlaw05.AsmBuilds', WHERE WHAT IT READS IS OF BULK AT MOST 1048576: true; the input reads as it did. -/
def asmBuildsUptoRow : OpenClaim := { program := "ytjbhhlhaikmecaadoor", sum := "3ff848c665356eedd535fb5743d471abc409822a66d8b2704bd4973d001cf450", func := "foreman/foremanlaw05.AsmBuilds", spec := "asmBuilds", inPlace := ["internal/abi.NoEscape"], named := ["foreman/asm.kinds", "internal/strconv.uint64pow10", "math/bits.deBruijn32tab", "math/bits.deBruijn64tab"], apart := false, laid := [("math/bits.deBruijn32tab", laid_math_bits_deBruijn32tab), ("math/bits.deBruijn64tab", laid_math_bits_deBruijn64tab), ("internal/strconv.uint64pow10", laid_internal_strconv_uint64pow10), ("foreman/asm.kinds", laid_foreman_asm_kinds)], narrowed := true }
def AsmBuildsUptoSaid : Prop := asmBuildsUptoRow.holds Tryd.pinned (OpenSpec.upto asmBuildsSpec)

/-- 'foremanlaw05.AsmTells', WHERE WHAT IT READS IS OF BULK AT MOST 1048576: true; the input reads as it did. -/
def asmTellsUptoRow : OpenClaim := { program := "ytjbhhlhaikmecaadoor", sum := "3ff848c665356eedd535fb5743d471abc409822a66d8b2704bd4973d001cf450", func := "foreman/foremanlaw05.AsmTells", spec := "asmTells", inPlace := ["internal/abi.NoEscape"], recurses := true, named := ["foreman/asm.kinds", "internal/strconv.uint64pow10", "math/bits.deBruijn32tab", "math/bits.deBruijn64tab"], apart := false, laid := [("math/bits.deBruijn32tab", laid_math_bits_deBruijn32tab), ("math/bits.deBruijn64tab", laid_math_bits_deBruijn64tab), ("internal/strconv.uint64pow10", laid_internal_strconv_uint64pow10), ("foreman/asm.kinds", laid_foreman_asm_kinds)], narrowed := true }
def AsmTellsUptoSaid : Prop := asmTellsUptoRow.holds Tryd.pinned (OpenSpec.upto asmTellsSpec)

/-- 'foremanlaw05.AsmAgain', WHERE WHAT IT READS IS OF BULK AT MOST 1048576: true; the input reads as it did. -/
def asmAgainUptoRow : OpenClaim := { program := "ytjbhhlhaikmecaadoor", sum := "3ff848c665356eedd535fb5743d471abc409822a66d8b2704bd4973d001cf450", func := "foreman/foremanlaw05.AsmAgain", spec := "asmAgain", inPlace := ["internal/abi.NoEscape"], named := ["foreman/asm.kinds", "internal/strconv.uint64pow10", "math/bits.deBruijn32tab", "math/bits.deBruijn64tab"], apart := false, laid := [("math/bits.deBruijn32tab", laid_math_bits_deBruijn32tab), ("math/bits.deBruijn64tab", laid_math_bits_deBruijn64tab), ("internal/strconv.uint64pow10", laid_internal_strconv_uint64pow10), ("foreman/asm.kinds", laid_foreman_asm_kinds)], narrowed := true }
def AsmAgainUptoSaid : Prop := asmAgainUptoRow.holds Tryd.pinned (OpenSpec.upto asmAgainSpec)

/-- 'foremanlaw05.AsmWords', WHERE WHAT IT READS IS OF BULK AT MOST 1048576: true; the input reads as it did. -/
def asmWordsUptoRow : OpenClaim := { program := "ytjbhhlhaikmecaadoor", sum := "3ff848c665356eedd535fb5743d471abc409822a66d8b2704bd4973d001cf450", func := "foreman/foremanlaw05.AsmWords", spec := "asmWords", inPlace := ["internal/abi.NoEscape"], named := ["foreman/asm.kinds", "internal/strconv.uint64pow10", "math/bits.deBruijn32tab", "math/bits.deBruijn64tab"], apart := false, laid := [("math/bits.deBruijn32tab", laid_math_bits_deBruijn32tab), ("math/bits.deBruijn64tab", laid_math_bits_deBruijn64tab), ("internal/strconv.uint64pow10", laid_internal_strconv_uint64pow10), ("foreman/asm.kinds", laid_foreman_asm_kinds)], narrowed := true }
def AsmWordsUptoSaid : Prop := asmWordsUptoRow.holds Tryd.pinned (OpenSpec.upto asmWordsSpec)

/-- 'foremanlaw05.AsmNotes', WHERE WHAT IT READS IS OF BULK AT MOST 1048576: true; the input reads as it did. -/
def asmNotesUptoRow : OpenClaim := { program := "ytjbhhlhaikmecaadoor", sum := "3ff848c665356eedd535fb5743d471abc409822a66d8b2704bd4973d001cf450", func := "foreman/foremanlaw05.AsmNotes", spec := "asmNotes", inPlace := ["internal/abi.NoEscape"], named := ["foreman/asm.kinds", "internal/strconv.uint64pow10", "math/bits.deBruijn32tab", "math/bits.deBruijn64tab"], apart := false, laid := [("math/bits.deBruijn32tab", laid_math_bits_deBruijn32tab), ("math/bits.deBruijn64tab", laid_math_bits_deBruijn64tab), ("internal/strconv.uint64pow10", laid_internal_strconv_uint64pow10), ("foreman/asm.kinds", laid_foreman_asm_kinds)], narrowed := true }
def AsmNotesUptoSaid : Prop := asmNotesUptoRow.holds Tryd.pinned (OpenSpec.upto asmNotesSpec)

end Rows
end Go.Proofs.YtjbhhlhaikmecaaDoor
