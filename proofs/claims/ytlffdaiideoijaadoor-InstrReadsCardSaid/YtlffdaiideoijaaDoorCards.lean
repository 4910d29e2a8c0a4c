/-
  DERIVED. GIVEN WITH THE SEED: THE CARDS: each row of YtlffdaiideoijaaDoorRows.lean that lists a variable, with what it lists TIED to the program's text (the seventh form; the later family's looks); each row that meets fmt, with fmt's text TOLD by the authors' own Lean function (tested against real Go, not proved from fmt's source: count such statements apart). THE CARD IS WHAT COUNTS. Prove the row's statement (the work); the ties are given (YtlffdaiideoijaaDoorTie.lean); close each card by the builder's one call (the guide's Derived/Test/ToyasCard.lean, 'card_holds'). Laid BY PROGRAM, IN A SANDBOX (cutbox-door.mjs). By AI agents, Wed Nov 11 2026. No macro, syntax, notation, axiom, sorry.
-/
import Derived.Test.YtlffdaiideoijaaDoorRows
import GoSem.ClaimSeven
namespace Go.Proofs.YtlffdaiideoijaaDoor
namespace Rows

/-- THE TIED CARD OF 'foremanlaw06.InstrPrints'. -/
def instrPrintsCard : Claim7 := { stood := { row := instrPrintsRow, standIns := [], harness := (true, "69e050b16ce246008013cbf1cff2a66242688720aed315597b144fe4e5c46e16"), looks := false }, kinds := [], alts := [], laidByText := true, laidKinds := [.data], laidTests := true, laidLooks := .later }
def InstrPrintsCardSaid : Prop := Claim7.holds Tryd.pinned (.plain (OpenSpec.ofChange instrPrintsSpec)) instrPrintsCard

/-- THE TIED CARD OF 'foremanlaw06.InstrReads'. -/
def instrReadsCard : Claim7 := { stood := { row := instrReadsRow, standIns := [], harness := (true, "69e050b16ce246008013cbf1cff2a66242688720aed315597b144fe4e5c46e16"), looks := false }, kinds := [], alts := [], laidByText := true, laidKinds := [.data], laidTests := true, laidLooks := .later }
def InstrReadsCardSaid : Prop := Claim7.holds Tryd.pinned (.plain (OpenSpec.ofChange instrReadsSpec)) instrReadsCard

/-- THE TIED CARD OF 'foremanlaw06.InstrBack'. -/
def instrBackCard : Claim7 := { stood := { row := instrBackRow, standIns := [], harness := (true, "69e050b16ce246008013cbf1cff2a66242688720aed315597b144fe4e5c46e16"), looks := false }, kinds := [], alts := [], laidByText := true, laidKinds := [.data], laidTests := true, laidLooks := .later }
def InstrBackCardSaid : Prop := Claim7.holds Tryd.pinned (.plain (OpenSpec.ofChange instrBackSpec)) instrBackCard

/-- THE TIED CARD OF 'foremanlaw06.InstrSizes'. -/
def instrSizesCard : Claim7 := { stood := { row := instrSizesRow, standIns := [], harness := (true, "69e050b16ce246008013cbf1cff2a66242688720aed315597b144fe4e5c46e16"), looks := false }, kinds := [], alts := [], laidByText := true, laidKinds := [.data], laidTests := true, laidLooks := .later }
def InstrSizesCardSaid : Prop := Claim7.holds Tryd.pinned (.plain (OpenSpec.ofChange instrSizesSpec)) instrSizesCard

/-- THE SECOND FORM's CARD OF 'foremanlaw06.InstrPrints'. -/
def instrPrintsUptoCard : Claim7 := { stood := { row := instrPrintsUptoRow, standIns := [], harness := (true, "69e050b16ce246008013cbf1cff2a66242688720aed315597b144fe4e5c46e16"), looks := false }, kinds := [], alts := [], laidByText := true, laidKinds := [.data], laidTests := true, laidLooks := .later }
def InstrPrintsUptoCardSaid : Prop := Claim7.holds Tryd.pinned (.plain (OpenSpec.upto instrPrintsSpec)) instrPrintsUptoCard

/-- THE SECOND FORM's CARD OF 'foremanlaw06.InstrReads'. -/
def instrReadsUptoCard : Claim7 := { stood := { row := instrReadsUptoRow, standIns := [], harness := (true, "69e050b16ce246008013cbf1cff2a66242688720aed315597b144fe4e5c46e16"), looks := false }, kinds := [], alts := [], laidByText := true, laidKinds := [.data], laidTests := true, laidLooks := .later }
def InstrReadsUptoCardSaid : Prop := Claim7.holds Tryd.pinned (.plain (OpenSpec.upto instrReadsSpec)) instrReadsUptoCard

/-- THE SECOND FORM's CARD OF 'foremanlaw06.InstrBack'. -/
def instrBackUptoCard : Claim7 := { stood := { row := instrBackUptoRow, standIns := [], harness := (true, "69e050b16ce246008013cbf1cff2a66242688720aed315597b144fe4e5c46e16"), looks := false }, kinds := [], alts := [], laidByText := true, laidKinds := [.data], laidTests := true, laidLooks := .later }
def InstrBackUptoCardSaid : Prop := Claim7.holds Tryd.pinned (.plain (OpenSpec.upto instrBackSpec)) instrBackUptoCard

/-- THE SECOND FORM's CARD OF 'foremanlaw06.InstrSizes'. -/
def instrSizesUptoCard : Claim7 := { stood := { row := instrSizesUptoRow, standIns := [], harness := (true, "69e050b16ce246008013cbf1cff2a66242688720aed315597b144fe4e5c46e16"), looks := false }, kinds := [], alts := [], laidByText := true, laidKinds := [.data], laidTests := true, laidLooks := .later }
def InstrSizesUptoCardSaid : Prop := Claim7.holds Tryd.pinned (.plain (OpenSpec.upto instrSizesSpec)) instrSizesUptoCard
end Rows
end Go.Proofs.YtlffdaiideoijaaDoor
