/-
  A step that may turn two blocks, each once: what they come to stays, and so do all others. No conditions.
-/
import Derived.Test.YtenjjepjmcijhaaBut
namespace Go.Proofs.Ytenjjepjmcijhaa
open Go.RowKit

/-- All but blocks g1 and g2 is as it was; these stay as e1 and e2 say, once they are so; new blocks may be there. -/
structure Turn (g1 g2 : Nat) (t1 t2 : TypeId) (e1 e2 : Array Value) (x y : World) : Prop where
  os : y.os = x.os
  tape : y.tape = x.tape
  output : y.output = x.output
  size : x.heap.size ≤ y.heap.size
  block : ∀ k, k < x.heap.size → k ≠ g1 → k ≠ g2 → y.heap[k]? = x.heap[k]?
  one : Bk x g1 t1 e1 → Bk y g1 t1 e1
  two : Bk x g2 t2 e2 → Bk y g2 t2 e2

variable {g1 g2 : Nat} {t1 t2 : TypeId} {e1 e2 : Array Value}

theorem Turn.refl (x : World) : Turn g1 g2 t1 t2 e1 e2 x x := ⟨rfl, rfl, rfl, Nat.le_refl _, fun _ _ _ _ => rfl, id, id⟩

theorem Turn.trans {a b c : World} (h : Turn g1 g2 t1 t2 e1 e2 a b) (k : Turn g1 g2 t1 t2 e1 e2 b c) : Turn g1 g2 t1 t2 e1 e2 a c :=
  ⟨k.os.trans h.os, k.tape.trans h.tape, k.output.trans h.output, Nat.le_trans h.size k.size, fun i hi p q => (k.block i (Nat.lt_of_lt_of_le hi h.size) p q).trans (h.block i hi p q), fun q => k.one (h.one q), fun q => k.two (h.two q)⟩

theorem Turn.of_below {x y : World} (h : Below x.heap.size x y) : Turn g1 g2 t1 t2 e1 e2 x y :=
  ⟨h.os, h.tape, h.output, h.size, fun k hk _ _ => h.block k hk, fun q => q.below h, fun q => q.below h⟩

theorem Turn.of_one {x y : World} (h : But g1 x y) (h1 : Bk y g1 t1 e1) (h2 : Bk x g2 t2 e2 → Bk y g2 t2 e2) : Turn g1 g2 t1 t2 e1 e2 x y :=
  ⟨h.os, h.tape, h.output, h.size, fun k hk p _ => h.block k hk p, fun _ => h1, h2⟩

theorem Turn.of_two {x y : World} (h : But g2 x y) (h2 : Bk y g2 t2 e2) (h1 : Bk x g1 t1 e1 → Bk y g1 t1 e1) : Turn g1 g2 t1 t2 e1 e2 x y :=
  ⟨h.os, h.tape, h.output, h.size, fun k hk _ q => h.block k hk q, h1, fun _ => h2⟩

theorem Turn.bk {x y : World} (h : Turn g1 g2 t1 t2 e1 e2 x y) {k : Nat} {t : TypeId} {cs : Array Value} (hk : Bk x k t cs) (n1 : k ≠ g1) (n2 : k ≠ g2) : Bk y k t cs := (h.block k hk.lt n1 n2).trans hk

theorem Turn.below {x y a : World} {B : Nat} (h : Turn g1 g2 t1 t2 e1 e2 x y) (hb : Below B a x) (h1 : B ≤ g1) (h2 : B ≤ g2) (hB : B ≤ x.heap.size) : Below B a y :=
  hb.trans ⟨h.os, h.tape, h.output, h.size, fun k hk => h.block k (by omega) (by omega) (by omega)⟩

end Go.Proofs.Ytenjjepjmcijhaa
