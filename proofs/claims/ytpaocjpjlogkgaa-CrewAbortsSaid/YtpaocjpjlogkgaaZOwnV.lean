/-
  Rows of one's own as words of what an operation leaves; what lies above a block and is let be. They name no function and no type of the program. No conditions but those that stand there.
-/
import Derived.Test.YtpaocjpjlogkgaaQRely
import Derived.Test.YtpaocjpjlogkgaaQWords
namespace Go.Proofs.Ytpaocjpjlogkgaa
open Go Go.RowKit

/-- a row of one's own. -/
def ownV (B : Nat) (e : TypeId) (size n : Nat) (xs : List Value) : Says := fun v w => ∃ A c, v = .slice A n c ∧ w.ownsRow B e size (.slice A n c) n xs
theorem ownV_keep {B : Nat} {e : TypeId} {size n : Nat} {xs : List Value} (v : Value) (x y : World) (hb : Below x.heap.size x y) (h : ownV B e size n xs v x) : ownV B e size n xs v y := by
  obtain ⟨A, c, rfl, ho⟩ := h
  exact ⟨A, c, rfl, own_below ho hb⟩

/-- all from block B on is as it was. -/
def KeptUp (B : Nat) (x y : World) : Prop := x.heap.size ≤ y.heap.size ∧ ∀ k, B ≤ k → k < x.heap.size → y.heap[k]? = x.heap[k]?
theorem KeptUp.refl (B : Nat) (x : World) : KeptUp B x x := ⟨Nat.le_refl _, fun _ _ _ => rfl⟩
theorem KeptUp.trans {B : Nat} {x y z : World} (h : KeptUp B x y) (k : KeptUp B y z) : KeptUp B x z := ⟨Nat.le_trans h.1 k.1, fun j h1 h2 => (k.2 j h1 (Nat.lt_of_lt_of_le h2 h.1)).trans (h.2 j h1 h2)⟩
theorem KeptUp.of {B : Nat} {x y : World} (h : Below x.heap.size x y) : KeptUp B x y := ⟨h.size, fun k _ h2 => h.block k h2⟩
theorem KeptUp.setCells {B : Nat} {x y : World} (h : KeptUp B x y) {g : Nat} (hg : g < B) (o : Nat) (vs : List Value) : KeptUp B x (y.setCells g o vs) := ⟨by rw [size_setCells]; exact h.1, fun k h1 h2 => (heap_setCells vs o y k (by omega)).trans (h.2 k h1 h2)⟩
theorem KeptUp.setCell {B : Nat} {x y : World} (h : KeptUp B x y) {g : Nat} (hg : g < B) (o : Nat) (v : Value) : KeptUp B x (y.setCell ⟨g, o, none⟩ v) := h.setCells hg o [v]
theorem KeptUp.setRow {B : Nat} {x y : World} (h : KeptUp B x y) {g : Nat} (hg : g < B) (cs : Array Value) : KeptUp B x (y.setRow g cs) := ⟨by simpa using h.1, fun k h1 h2 => (setRow_other y g k cs (by omega)).trans (h.2 k h1 h2)⟩
theorem own_up {B B' : Nat} {x y : World} (h : KeptUp B x y) {e : TypeId} {size n : Nat} {v : Value} {xs : List Value} (ho : x.ownsRow B' e size v n xs) (hB : B ≤ B') : y.ownsRow B' e size v n xs :=
  own_keep ho fun g h1 h2 => h.2 g (Nat.le_trans hB (own_ge ho h2)) h1

end Go.Proofs.Ytpaocjpjlogkgaa
