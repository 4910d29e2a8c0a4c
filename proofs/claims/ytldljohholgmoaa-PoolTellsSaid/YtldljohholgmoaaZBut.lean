/-
  A step that may turn one block, and makes new ones: all the others stay. No conditions.
-/
import Derived.Test.YtldljohholgmoaaZWords
namespace Go.Proofs.Ytldljohholgmoaa
open Go.RowKit

/-- All but block g is as it was; new blocks may be there. -/
structure But (g : Nat) (w w' : World) : Prop where
  os : w'.os = w.os
  tape : w'.tape = w.tape
  output : w'.output = w.output
  size : w.heap.size ≤ w'.heap.size
  block : ∀ k, k < w.heap.size → k ≠ g → w'.heap[k]? = w.heap[k]?

theorem But.refl (g : Nat) (w : World) : But g w w := ⟨rfl, rfl, rfl, Nat.le_refl _, fun _ _ _ => rfl⟩

theorem But.trans {g : Nat} {a b c : World} (h : But g a b) (k : But g b c) : But g a c :=
  ⟨k.os.trans h.os, k.tape.trans h.tape, k.output.trans h.output, Nat.le_trans h.size k.size, fun i hi hg => (k.block i (Nat.lt_of_lt_of_le hi h.size) hg).trans (h.block i hi hg)⟩

theorem But.of_below {g : Nat} {w w' : World} (h : Below w.heap.size w w') : But g w w' := ⟨h.os, h.tape, h.output, h.size, fun k hk _ => h.block k hk⟩

theorem But.below {g B : Nat} {a w w' : World} (h : But g w w') (hb : Below B a w) (hB : B ≤ g) (ha : B ≤ w.heap.size) : Below B a w' :=
  hb.trans ⟨h.os, h.tape, h.output, h.size, fun k hk => h.block k (by omega) (by omega)⟩

theorem But.set {g : Nat} (w : World) (i : Nat) (u : Value) : But g w (w.setCell ⟨g, i, none⟩ u) :=
  ⟨rfl, rfl, rfl, by simp, fun k _ hk => Below.heap_setCell w ⟨g, i, none⟩ u k hk⟩

theorem But.setNew {g : Nat} {w wr : World} (h : But g w wr) {p : Addr} (hp : w.heap.size ≤ p.block) (u : Value) : But g w (wr.setCell p u) :=
  ⟨h.os, h.tape, h.output, by simpa using h.size, fun k hk hg => (Below.heap_setCell wr p u k (by omega)).trans (h.block k hk hg)⟩

theorem But.drew {g : Nat} (w : World) : But g w w.drew := But.of_below (below_drew1 w)

theorem But.bk {g h : Nat} {w w' : World} {t : TypeId} {cs : Array Value} (b : But g w w') (hk : Bk w h t cs) (hne : h ≠ g) : Bk w' h t cs := (b.block h hk.lt hne).trans hk

theorem But.cell {g : Nat} {w w' : World} (b : But g w w') : ∀ k o, k < w.heap.size → k ≠ g → w'.cell? ⟨k, o, none⟩ = w.cell? ⟨k, o, none⟩ :=
  fun k _ h hne => World.cell?_of_block (b.block k h hne)

end Go.Proofs.Ytldljohholgmoaa
