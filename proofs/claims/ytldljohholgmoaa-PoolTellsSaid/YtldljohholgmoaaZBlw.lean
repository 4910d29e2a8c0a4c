/-
  Two words on memory that has only grown. They name no function of the program. No conditions.
-/
import Derived.Test.YtldljohholgmoaaZWords
namespace Go.Proofs.Ytldljohholgmoaa
open Go.RowKit

theorem below_alloc1 (w : World) (o : Obj) : Below w.heap.size w (w.alloc o) := (Below.refl _ _).alloc (Nat.le_refl _) _

theorem drewN_below (w : World) (n : Nat) : Below w.heap.size w (w.drewN n) := ⟨rfl, rfl, rfl, Nat.le_refl _, fun _ _ => rfl⟩

end Go.Proofs.Ytldljohholgmoaa
