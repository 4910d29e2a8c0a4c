/-
  DERIVED. GIVEN WITH THE SEED: THE CARDS: each row of YtjbhhlhaikmecaaDoorRows.lean that lists a variable, with what it lists TIED to the program's text (the seventh form; the later family's looks); each row that meets fmt, with fmt's text TOLD by the authors' own Lean function (tested against real Go, not proved from fmt's source: count such statements apart). THE CARD IS WHAT COUNTS. Prove the row's statement (the work); the ties are given (YtjbhhlhaikmecaaDoorTie.lean); close each card by the builder's one call (the guide's Derived/Test/ToyasCard.lean, 'card_holds'). Laid BY PROGRAM, IN A SANDBOX (cutbox-door.mjs). By AI agents, Wed Nov 11 2026. No macro, syntax, notation, axiom, sorry.
-/
import Derived.Test.YtjbhhlhaikmecaaDoorRows
import GoSem.ClaimSeven
namespace Go.Proofs.YtjbhhlhaikmecaaDoor
namespace Rows

/-- THE TIED CARD OF 'foremanlaw05.AsmBuilds'. -/
def asmBuildsCard : Claim7 := { stood := { row := asmBuildsRow, standIns := [], harness := (true, "4b9daf2ca96c671c05cb70faa9205bebca4fa52d413b2fbb22fd5bf29f708bb0"), looks := true }, kinds := [], alts := [], laidByText := true, laidKinds := [.data, .data, .data, .data], laidTests := true, laidLooks := .later }
def AsmBuildsCardSaid : Prop := Claim7.holds Tryd.pinned (.plain (OpenSpec.ofChange asmBuildsSpec)) asmBuildsCard

/-- THE TIED CARD OF 'foremanlaw05.AsmTells'. -/
def asmTellsCard : Claim7 := { stood := { row := asmTellsRow, standIns := [], harness := (true, "4b9daf2ca96c671c05cb70faa9205bebca4fa52d413b2fbb22fd5bf29f708bb0"), looks := true }, kinds := [], alts := [], laidByText := true, laidKinds := [.data, .data, .data, .data], laidTests := true, laidLooks := .later }
def AsmTellsCardSaid : Prop := Claim7.holds Tryd.pinned (.plain (OpenSpec.ofChange asmTellsSpec)) asmTellsCard

/-- THE TIED CARD OF 'foremanlaw05.AsmAgain'. -/
def asmAgainCard : Claim7 := { stood := { row := asmAgainRow, standIns := [], harness := (true, "4b9daf2ca96c671c05cb70faa9205bebca4fa52d413b2fbb22fd5bf29f708bb0"), looks := true }, kinds := [], alts := [], laidByText := true, laidKinds := [.data, .data, .data, .data], laidTests := true, laidLooks := .later }
def AsmAgainCardSaid : Prop := Claim7.holds Tryd.pinned (.plain (OpenSpec.ofChange asmAgainSpec)) asmAgainCard

/-- THE TIED CARD OF 'foremanlaw05.AsmWords'. -/
def asmWordsCard : Claim7 := { stood := { row := asmWordsRow, standIns := [], harness := (true, "4b9daf2ca96c671c05cb70faa9205bebca4fa52d413b2fbb22fd5bf29f708bb0"), looks := true }, kinds := [], alts := [], laidByText := true, laidKinds := [.data, .data, .data, .data], laidTests := true, laidLooks := .later }
def AsmWordsCardSaid : Prop := Claim7.holds Tryd.pinned (.plain (OpenSpec.ofChange asmWordsSpec)) asmWordsCard

/-- THE TIED CARD OF 'foremanlaw05.AsmNotes'. -/
def asmNotesCard : Claim7 := { stood := { row := asmNotesRow, standIns := [], harness := (true, "4b9daf2ca96c671c05cb70faa9205bebca4fa52d413b2fbb22fd5bf29f708bb0"), looks := true }, kinds := [], alts := [], laidByText := true, laidKinds := [.data, .data, .data, .data], laidTests := true, laidLooks := .later }
def AsmNotesCardSaid : Prop := Claim7.holds Tryd.pinned (.plain (OpenSpec.ofChange asmNotesSpec)) asmNotesCard

/-- THE SECOND FORM's CARD OF 'foremanlaw05.AsmBuilds'. -/
def asmBuildsUptoCard : Claim7 := { stood := { row := asmBuildsUptoRow, standIns := [], harness := (true, "4b9daf2ca96c671c05cb70faa9205bebca4fa52d413b2fbb22fd5bf29f708bb0"), looks := true }, kinds := [], alts := [], laidByText := true, laidKinds := [.data, .data, .data, .data], laidTests := true, laidLooks := .later }
def AsmBuildsUptoCardSaid : Prop := Claim7.holds Tryd.pinned (.plain (OpenSpec.upto asmBuildsSpec)) asmBuildsUptoCard

/-- THE SECOND FORM's CARD OF 'foremanlaw05.AsmTells'. -/
def asmTellsUptoCard : Claim7 := { stood := { row := asmTellsUptoRow, standIns := [], harness := (true, "4b9daf2ca96c671c05cb70faa9205bebca4fa52d413b2fbb22fd5bf29f708bb0"), looks := true }, kinds := [], alts := [], laidByText := true, laidKinds := [.data, .data, .data, .data], laidTests := true, laidLooks := .later }
def AsmTellsUptoCardSaid : Prop := Claim7.holds Tryd.pinned (.plain (OpenSpec.upto asmTellsSpec)) asmTellsUptoCard

/-- THE SECOND FORM's CARD OF 'foremanlaw05.AsmAgain'. -/
def asmAgainUptoCard : Claim7 := { stood := { row := asmAgainUptoRow, standIns := [], harness := (true, "4b9daf2ca96c671c05cb70faa9205bebca4fa52d413b2fbb22fd5bf29f708bb0"), looks := true }, kinds := [], alts := [], laidByText := true, laidKinds := [.data, .data, .data, .data], laidTests := true, laidLooks := .later }
def AsmAgainUptoCardSaid : Prop := Claim7.holds Tryd.pinned (.plain (OpenSpec.upto asmAgainSpec)) asmAgainUptoCard

/-- THE SECOND FORM's CARD OF 'foremanlaw05.AsmWords'. -/
def asmWordsUptoCard : Claim7 := { stood := { row := asmWordsUptoRow, standIns := [], harness := (true, "4b9daf2ca96c671c05cb70faa9205bebca4fa52d413b2fbb22fd5bf29f708bb0"), looks := true }, kinds := [], alts := [], laidByText := true, laidKinds := [.data, .data, .data, .data], laidTests := true, laidLooks := .later }
def AsmWordsUptoCardSaid : Prop := Claim7.holds Tryd.pinned (.plain (OpenSpec.upto asmWordsSpec)) asmWordsUptoCard

/-- THE SECOND FORM's CARD OF 'foremanlaw05.AsmNotes'. -/
def asmNotesUptoCard : Claim7 := { stood := { row := asmNotesUptoRow, standIns := [], harness := (true, "4b9daf2ca96c671c05cb70faa9205bebca4fa52d413b2fbb22fd5bf29f708bb0"), looks := true }, kinds := [], alts := [], laidByText := true, laidKinds := [.data, .data, .data, .data], laidTests := true, laidLooks := .later }
def AsmNotesUptoCardSaid : Prop := Claim7.holds Tryd.pinned (.plain (OpenSpec.upto asmNotesSpec)) asmNotesUptoCard
end Rows
end Go.Proofs.YtjbhhlhaikmecaaDoor
