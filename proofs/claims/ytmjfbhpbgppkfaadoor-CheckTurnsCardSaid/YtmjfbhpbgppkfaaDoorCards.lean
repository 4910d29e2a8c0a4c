/-
  DERIVED. GIVEN WITH THE SEED: THE CARDS: each row of YtmjfbhpbgppkfaaDoorRows.lean that lists a variable, with what it lists TIED to the program's text (the seventh form; the later family's looks); each row that meets fmt, with fmt's text TOLD by the authors' own Lean function (tested against real Go, not proved from fmt's source: count such statements apart). THE CARD IS WHAT COUNTS. Prove the row's statement (the work); the ties are given (YtmjfbhpbgppkfaaDoorTie.lean); close each card by the builder's one call (the guide's Derived/Test/ToyasCard.lean, 'card_holds'). Laid BY PROGRAM, IN A SANDBOX (cutbox-door.mjs). By AI agents, Wed Nov 11 2026. No macro, syntax, notation, axiom, sorry.
-/
import Derived.Test.YtmjfbhpbgppkfaaDoorRows
import GoSem.ClaimSeven
namespace Go.Proofs.YtmjfbhpbgppkfaaDoor
namespace Rows

/-- THE TIED CARD OF 'foremanlaw02.CheckOf'. -/
def checkOfCard : Claim7 := { stood := { row := checkOfRow, standIns := [], harness := (true, "a592dd648c6e3e294331814075bc296e0a252deb6d24a2f3ffd7a42128df45ae"), looks := false }, kinds := [], alts := [], laidByText := true, laidKinds := [.data], laidTests := true, laidLooks := .later }
def CheckOfCardSaid : Prop := Claim7.holds Tryd.pinned (.plain (OpenSpec.ofChange checkOfSpec)) checkOfCard

/-- THE TIED CARD OF 'foremanlaw02.CheckParts'. -/
def checkPartsCard : Claim7 := { stood := { row := checkPartsRow, standIns := [], harness := (true, "a592dd648c6e3e294331814075bc296e0a252deb6d24a2f3ffd7a42128df45ae"), looks := false }, kinds := [], alts := [], laidByText := true, laidKinds := [.data], laidTests := true, laidLooks := .later }
def CheckPartsCardSaid : Prop := Claim7.holds Tryd.pinned (.plain (OpenSpec.ofChange checkPartsSpec)) checkPartsCard

/-- THE TIED CARD OF 'foremanlaw02.CheckTurns'. -/
def checkTurnsCard : Claim7 := { stood := { row := checkTurnsRow, standIns := [], harness := (true, "a592dd648c6e3e294331814075bc296e0a252deb6d24a2f3ffd7a42128df45ae"), looks := false }, kinds := [], alts := [], laidByText := true, laidKinds := [.data], laidTests := true, laidLooks := .later }
def CheckTurnsCardSaid : Prop := Claim7.holds Tryd.pinned (.plain (OpenSpec.ofChange checkTurnsSpec)) checkTurnsCard

/-- THE TIED CARD OF 'foremanlaw02.CheckSteps'. -/
def checkStepsCard : Claim7 := { stood := { row := checkStepsRow, standIns := [], harness := (true, "a592dd648c6e3e294331814075bc296e0a252deb6d24a2f3ffd7a42128df45ae"), looks := false }, kinds := [], alts := [], laidByText := true, laidKinds := [.data], laidTests := true, laidLooks := .later }
def CheckStepsCardSaid : Prop := Claim7.holds Tryd.pinned (.plain (OpenSpec.ofChange checkStepsSpec)) checkStepsCard

/-- THE TIED CARD OF 'foremanlaw02.CheckSums'. -/
def checkSumsCard : Claim7 := { stood := { row := checkSumsRow, standIns := [], harness := (true, "a592dd648c6e3e294331814075bc296e0a252deb6d24a2f3ffd7a42128df45ae"), looks := false }, kinds := [], alts := [], laidByText := true, laidKinds := [.data], laidTests := true, laidLooks := .later }
def CheckSumsCardSaid : Prop := Claim7.holds Tryd.pinned (.plain (OpenSpec.ofChange checkSumsSpec)) checkSumsCard

/-- THE SECOND FORM's CARD OF 'foremanlaw02.CheckOf'. -/
def checkOfUptoCard : Claim7 := { stood := { row := checkOfUptoRow, standIns := [], harness := (true, "a592dd648c6e3e294331814075bc296e0a252deb6d24a2f3ffd7a42128df45ae"), looks := false }, kinds := [], alts := [], laidByText := true, laidKinds := [.data], laidTests := true, laidLooks := .later }
def CheckOfUptoCardSaid : Prop := Claim7.holds Tryd.pinned (.plain (OpenSpec.upto checkOfSpec)) checkOfUptoCard

/-- THE SECOND FORM's CARD OF 'foremanlaw02.CheckParts'. -/
def checkPartsUptoCard : Claim7 := { stood := { row := checkPartsUptoRow, standIns := [], harness := (true, "a592dd648c6e3e294331814075bc296e0a252deb6d24a2f3ffd7a42128df45ae"), looks := false }, kinds := [], alts := [], laidByText := true, laidKinds := [.data], laidTests := true, laidLooks := .later }
def CheckPartsUptoCardSaid : Prop := Claim7.holds Tryd.pinned (.plain (OpenSpec.upto checkPartsSpec)) checkPartsUptoCard

/-- THE SECOND FORM's CARD OF 'foremanlaw02.CheckTurns'. -/
def checkTurnsUptoCard : Claim7 := { stood := { row := checkTurnsUptoRow, standIns := [], harness := (true, "a592dd648c6e3e294331814075bc296e0a252deb6d24a2f3ffd7a42128df45ae"), looks := false }, kinds := [], alts := [], laidByText := true, laidKinds := [.data], laidTests := true, laidLooks := .later }
def CheckTurnsUptoCardSaid : Prop := Claim7.holds Tryd.pinned (.plain (OpenSpec.upto checkTurnsSpec)) checkTurnsUptoCard

/-- THE SECOND FORM's CARD OF 'foremanlaw02.CheckSteps'. -/
def checkStepsUptoCard : Claim7 := { stood := { row := checkStepsUptoRow, standIns := [], harness := (true, "a592dd648c6e3e294331814075bc296e0a252deb6d24a2f3ffd7a42128df45ae"), looks := false }, kinds := [], alts := [], laidByText := true, laidKinds := [.data], laidTests := true, laidLooks := .later }
def CheckStepsUptoCardSaid : Prop := Claim7.holds Tryd.pinned (.plain (OpenSpec.upto checkStepsSpec)) checkStepsUptoCard

/-- THE SECOND FORM's CARD OF 'foremanlaw02.CheckSums'. -/
def checkSumsUptoCard : Claim7 := { stood := { row := checkSumsUptoRow, standIns := [], harness := (true, "a592dd648c6e3e294331814075bc296e0a252deb6d24a2f3ffd7a42128df45ae"), looks := false }, kinds := [], alts := [], laidByText := true, laidKinds := [.data], laidTests := true, laidLooks := .later }
def CheckSumsUptoCardSaid : Prop := Claim7.holds Tryd.pinned (.plain (OpenSpec.upto checkSumsSpec)) checkSumsUptoCard
end Rows
end Go.Proofs.YtmjfbhpbgppkfaaDoor
