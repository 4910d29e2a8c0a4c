/-
  A statement whose order is open, whose operations only read, and whose callees may make memory but turn nothing that lies there and answer what does not hang on it: one walk in the order of the text serves every order. No conditions.
-/
import Derived.Test.YtpaocjpjlogkgaaQWords
import Derived.Deep.QuietTactic
import Derived.BigQuiet
namespace Go.Proofs.Ytpaocjpjlogkgaa
open Go.RowKit

/-- The worlds in which all that lies in W lies as it does there. -/
def KW (W : World) : Type := { w : World // Below W.heap.size W w }

theorem KW.cell {W : World} {b o : Nat} {v : Value} (h : W.cell? ⟨b, o, none⟩ = some v) (hb : b < W.heap.size) : ∀ x : KW W, x.1.cell? ⟨b, o, none⟩ = some v :=
  fun x => (x.2.cell (p := ⟨b, o, none⟩) hb).trans h

end Go.Proofs.Ytpaocjpjlogkgaa
