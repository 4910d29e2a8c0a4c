/-
  DERIVED. GIVEN WITH THE SEED: THE CARDS: each row of YtlhipaecndgonaaDoorRows.lean that lists a variable, with what it lists TIED to the program's text (the seventh form; the later family's looks); each row that meets fmt, with fmt's text TOLD by the authors' own Lean function (tested against real Go, not proved from fmt's source: count such statements apart). THE CARD IS WHAT COUNTS. Prove the row's statement (the work); the ties are given (YtlhipaecndgonaaDoorTie.lean); close each card by the builder's one call (the guide's Derived/Test/ToyasCard.lean, 'card_holds'). Laid BY PROGRAM, IN A SANDBOX (cutbox-door.mjs). By AI agents, Wed Nov 11 2026. No macro, syntax, notation, axiom, sorry.
-/
import Derived.Test.YtlhipaecndgonaaDoorRows
import GoSem.ClaimSeven
namespace Go.Proofs.YtlhipaecndgonaaDoor
namespace Rows

/-- THE TIED CARD OF 'foremanlaw07.ProofMore'. -/
def proofMoreCard : Claim7 := { stood := { row := proofMoreRow, standIns := [], harness := (true, "35ab4c4fb86e4fbb80235476fc44bf05f859b0e2a63e9877c8cb675c0d1483b1"), looks := false }, kinds := [], alts := [], laidByText := true, laidKinds := [.data], laidTests := true, laidLooks := .later }
def ProofMoreCardSaid : Prop := Claim7.holds Tryd.pinned (.plain (OpenSpec.ofChange proofMoreSpec)) proofMoreCard

/-- THE TIED CARD OF 'foremanlaw07.ProofWays'. -/
def proofWaysCard : Claim7 := { stood := { row := proofWaysRow, standIns := [], harness := (true, "35ab4c4fb86e4fbb80235476fc44bf05f859b0e2a63e9877c8cb675c0d1483b1"), looks := false }, kinds := [], alts := [], laidByText := true, laidKinds := [.data], laidTests := true, laidLooks := .later }
def ProofWaysCardSaid : Prop := Claim7.holds Tryd.pinned (.plain (OpenSpec.ofChange proofWaysSpec)) proofWaysCard

/-- THE TIED CARD OF 'foremanlaw07.ProofTail'. -/
def proofTailCard : Claim7 := { stood := { row := proofTailRow, standIns := [], harness := (true, "35ab4c4fb86e4fbb80235476fc44bf05f859b0e2a63e9877c8cb675c0d1483b1"), looks := false }, kinds := [], alts := [], laidByText := true, laidKinds := [.data], laidTests := true, laidLooks := .later }
def ProofTailCardSaid : Prop := Claim7.holds Tryd.pinned (.plain (OpenSpec.ofChange proofTailSpec)) proofTailCard

/-- THE TIED CARD OF 'foremanlaw07.ProofPlain'. -/
def proofPlainCard : Claim7 := { stood := { row := proofPlainRow, standIns := [], harness := (true, "35ab4c4fb86e4fbb80235476fc44bf05f859b0e2a63e9877c8cb675c0d1483b1"), looks := false }, kinds := [], alts := [], laidByText := true, laidKinds := [.data], laidTests := true, laidLooks := .later }
def ProofPlainCardSaid : Prop := Claim7.holds Tryd.pinned (.plain (OpenSpec.ofChange proofPlainSpec)) proofPlainCard

/-- THE SECOND FORM's CARD OF 'foremanlaw07.ProofMore'. -/
def proofMoreUptoCard : Claim7 := { stood := { row := proofMoreUptoRow, standIns := [], harness := (true, "35ab4c4fb86e4fbb80235476fc44bf05f859b0e2a63e9877c8cb675c0d1483b1"), looks := false }, kinds := [], alts := [], laidByText := true, laidKinds := [.data], laidTests := true, laidLooks := .later }
def ProofMoreUptoCardSaid : Prop := Claim7.holds Tryd.pinned (.plain (OpenSpec.upto proofMoreSpec)) proofMoreUptoCard

/-- THE SECOND FORM's CARD OF 'foremanlaw07.ProofWays'. -/
def proofWaysUptoCard : Claim7 := { stood := { row := proofWaysUptoRow, standIns := [], harness := (true, "35ab4c4fb86e4fbb80235476fc44bf05f859b0e2a63e9877c8cb675c0d1483b1"), looks := false }, kinds := [], alts := [], laidByText := true, laidKinds := [.data], laidTests := true, laidLooks := .later }
def ProofWaysUptoCardSaid : Prop := Claim7.holds Tryd.pinned (.plain (OpenSpec.upto proofWaysSpec)) proofWaysUptoCard

/-- THE SECOND FORM's CARD OF 'foremanlaw07.ProofTail'. -/
def proofTailUptoCard : Claim7 := { stood := { row := proofTailUptoRow, standIns := [], harness := (true, "35ab4c4fb86e4fbb80235476fc44bf05f859b0e2a63e9877c8cb675c0d1483b1"), looks := false }, kinds := [], alts := [], laidByText := true, laidKinds := [.data], laidTests := true, laidLooks := .later }
def ProofTailUptoCardSaid : Prop := Claim7.holds Tryd.pinned (.plain (OpenSpec.upto proofTailSpec)) proofTailUptoCard

/-- THE SECOND FORM's CARD OF 'foremanlaw07.ProofPlain'. -/
def proofPlainUptoCard : Claim7 := { stood := { row := proofPlainUptoRow, standIns := [], harness := (true, "35ab4c4fb86e4fbb80235476fc44bf05f859b0e2a63e9877c8cb675c0d1483b1"), looks := false }, kinds := [], alts := [], laidByText := true, laidKinds := [.data], laidTests := true, laidLooks := .later }
def ProofPlainUptoCardSaid : Prop := Claim7.holds Tryd.pinned (.plain (OpenSpec.upto proofPlainSpec)) proofPlainUptoCard
end Rows
end Go.Proofs.YtlhipaecndgonaaDoor
