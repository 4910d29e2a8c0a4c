/-
  A machine in a block of its own, its lists elsewhere. No conditions but those that stand there.
-/
import Derived.Test.YtoomadafgkcebaaZMchN
namespace Go.Proofs.Ytoomadafgkcebaa
open Go.RowKit

abbrev mA (m : Mac) (sA : Option Addr) (sn sc : Nat) (oA : Option Addr) (on oc : Nat) : Array Value :=
  mC m.pc m.fuel (.slice sA sn sc) (rg m.regs 0) (rg m.regs 1) (rg m.regs 2) (rg m.regs 3) (.slice oA on oc) m.over m.told

/-- a machine in block G, its lists elsewhere; its blocks. -/
def MAt (G G2 : Nat) (r : Mac × Blks) (bA : Option Addr) (bn bc : Nat) (w : World) : Prop :=
  ∃ sA sn sc oA on oc, Bk w G 32 (mA r.1 sA sn sc oA on oc) ∧ MIn w r.1.stack r.1.out r.2 sA sn sc oA on oc bA bn bc ∧ off3 G sA sn oA on bA bn ∧ off3 G2 sA sn oA on bA bn

/-- a variable more: a machine. -/
theorem var_below (w : World) (cs : Array Value) : Below w.heap.size w ((w.alloc (.cells mZ 32)).setRow w.heap.size cs) := below_row (below_alloc1 _ _) (Nat.le_refl _) _
theorem var_bk (w : World) (cs : Array Value) : Bk ((w.alloc (.cells mZ 32)).setRow w.heap.size cs) w.heap.size 32 cs := Bk.setRow (Bk.new _ _ _) _

/-- what so many steps answer. -/
def WPost (r : Mac × Blks) (w : World) (e : Ending) (w' : World) : Prop :=
  ∃ sA sn sc oA on oc bA bn bc, e = .returned (.tuple #[.agg (mA r.1 sA sn sc oA on oc), .slice bA bn bc]) ∧ MIn w' r.1.stack r.1.out r.2 sA sn sc oA on oc bA bn bc ∧ Below w.heap.size w w'

end Go.Proofs.Ytoomadafgkcebaa
