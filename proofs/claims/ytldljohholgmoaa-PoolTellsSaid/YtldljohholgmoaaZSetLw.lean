/-
  Some cells of a row set one by one. They name no function of the program. No conditions but those that stand there.
-/
import Derived.Test.YtldljohholgmoaaZRowX
import Derived.Deep.MidRow
namespace Go.Proofs.Ytldljohholgmoaa
open Go.RowKit

/-- some cells of a list, set one by one. -/
def setL : List Value → Nat → List Value → List Value
  | xs, _, [] => xs
  | xs, o, v :: r => setL (xs.set o v) (o + 1) r

theorem setL_length : ∀ (vs xs : List Value) (o : Nat), (setL xs o vs).length = xs.length
  | [], _, _ => rfl
  | v :: r, xs, o => by rw [setL, setL_length r]; simp

theorem setL_at : ∀ (vs xs : List Value) (o i : Nat), i < xs.length → (setL xs o vs)[i]? = if o ≤ i ∧ i < o + vs.length then vs[i - o]? else xs[i]?
  | [], xs, o, i, h => by simp [setL]; omega
  | v :: r, xs, o, i, h => by
    rw [setL, setL_at r _ (o + 1) i (by simpa using h)]
    by_cases h1 : o + 1 ≤ i ∧ i < o + 1 + r.length
    · rw [if_pos h1, if_pos (by simp; omega), show i - o = i - (o + 1) + 1 by omega]
      simp
    · rw [if_neg h1]
      by_cases h2 : i = o
      · subst h2
        rw [List.getElem?_set_self h, if_pos (by simp)]
        simp
      · rw [List.getElem?_set_ne (Ne.symm h2), if_neg (by simp; omega)]

theorem own_setCells {B : Nat} {e : TypeId} {size n c g : Nat} : ∀ (vs : List Value) (o : Nat) {w : World} {xs : List Value}, w.ownsRow B e size (.slice (some ⟨g, 0, none⟩) n c) n xs → (w.setCells g o vs).ownsRow B e size (.slice (some ⟨g, 0, none⟩) n c) n (setL xs o vs)
  | [], _, _, _, h => h
  | v :: r, o, _, _, h => own_setCells r (o + 1) (h.stored o v).1

theorem heap_setCells {g : Nat} : ∀ (vs : List Value) (o : Nat) (w : World) (k : Nat), k ≠ g → (w.setCells g o vs).heap[k]? = w.heap[k]?
  | [], _, _, _, _ => rfl
  | v :: r, o, w, k, h => by rw [World.setCells, heap_setCells r (o + 1) _ k h, Below.heap_setCell w ⟨g, o, none⟩ v k h]

theorem size_setCells {g : Nat} : ∀ (vs : List Value) (o : Nat) (w : World), (w.setCells g o vs).heap.size = w.heap.size
  | [], _, _ => rfl
  | v :: r, o, w => by rw [World.setCells, size_setCells r (o + 1)]; simp

theorem misc_setCells {g : Nat} : ∀ (vs : List Value) (o : Nat) (w : World), (w.setCells g o vs).os = w.os ∧ (w.setCells g o vs).tape = w.tape ∧ (w.setCells g o vs).output = w.output
  | [], _, _ => ⟨rfl, rfl, rfl⟩
  | v :: r, o, w => by
    rw [World.setCells]
    exact misc_setCells r (o + 1) _

theorem below_setCells {B g : Nat} {a w : World} (h : Below B a w) (hg : B ≤ g) (vs : List Value) (o : Nat) : Below B a (w.setCells g o vs) :=
  h.trans ⟨(misc_setCells vs o w).1, (misc_setCells vs o w).2.1, (misc_setCells vs o w).2.2, by rw [size_setCells]; exact Nat.le_refl _, fun k hk => heap_setCells vs o w k (by omega)⟩

/-- cells of a block that are there, and may be written. -/
theorem Bk.there {w : World} {g : Nat} {t : TypeId} {cs : Array Value} (h : Bk w g t cs) {o n : Nat} (hn : o + n ≤ cs.size) : w.there g o n := fun j hj => ⟨by rw [h.cell, Array.getElem?_eq_getElem (by omega)]; rfl, h.frozen _⟩

theorem Bk.setCells {w : World} {g h : Nat} {t : TypeId} {cs : Array Value} (hk : Bk w g t cs) (hne : g ≠ h) (o : Nat) (vs : List Value) : Bk (w.setCells h o vs) g t cs := (heap_setCells vs o w g hne).trans hk

end Go.Proofs.Ytldljohholgmoaa
