/-
  A statement whose order is open, whose operations only read, and whose callees may make memory but turn nothing that lies there and answer what does not hang on it: one walk in the order of the text serves every order. No conditions.
-/
import Derived.Test.YtpaocjpjlogkgaaGreatQWords
import Derived.Deep.QuietTactic
import Derived.BigQuiet
namespace Go.Proofs.YtpaocjpjlogkgaaGreat
open Go.RowKit
def KW (W:World):Type:={ w:World // Below W.heap.size W w }
end Go.Proofs.YtpaocjpjlogkgaaGreat
