/-
  A machine's lists in memory, whosever they are. They name no function of the program. No conditions but those that stand there.
-/
import Derived.Test.YtldljohholgmoaaZMacC
import Derived.Test.YtldljohholgmoaaZBlkW
import Derived.Test.YtldljohholgmoaaQStr
namespace Go.Proofs.Ytldljohholgmoaa
open Go.RowKit

/-- a machine's lists in memory, whosever they are. -/
structure MIn (w : World) (st ou : List Int) (own : Blks) (sA : Option Addr) (sn sc : Nat) (oA : Option Addr) (on oc : Nat) (bA : Option Addr) (bn bc : Nat) : Prop where
  st : Sl w 1 sA sn sc (st.map (.int .i64))
  ou : Sl w 1 oA on oc (ou.map (.int .i64))
  bk : Sl w 8 bA bn bc (blksW own)

theorem MIn.below {w w' : World} {st ou : List Int} {own : Blks} {sA : Option Addr} {sn sc : Nat} {oA : Option Addr} {on oc : Nat} {bA : Option Addr} {bn bc : Nat} (h : MIn w st ou own sA sn sc oA on oc bA bn bc) (hb : Below w.heap.size w w') : MIn w' st ou own sA sn sc oA on oc bA bn bc :=
  ⟨h.st.below hb, h.ou.below hb, h.bk.below hb⟩

/-- a slice that doesn't lie in block G. -/
def offA (G : Nat) (A : Option Addr) (n : Nat) : Prop := 0 < n → ∀ b off, A = some ⟨b, off, none⟩ → b ≠ G

def off3 (G : Nat) (sA : Option Addr) (sn : Nat) (oA : Option Addr) (on : Nat) (bA : Option Addr) (bn : Nat) : Prop := offA G sA sn ∧ offA G oA on ∧ offA G bA bn

/-- a register. -/
def rg (l : List Int) (i : Nat) : Int := l[i]?.getD 0

theorem four_of {l : List Int} (h : l.length = 4) : l = [rg l 0, rg l 1, rg l 2, rg l 3] := by
  match l, h with
  | [a, b, c, d], _ => rfl

end Go.Proofs.Ytldljohholgmoaa
