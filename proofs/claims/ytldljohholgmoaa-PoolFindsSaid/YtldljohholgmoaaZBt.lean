/-
  A step that may turn one block, and all from a bound on: all the others stay. Rows of one's own above the bound. A string's iterator. They name no function of the program. No conditions.
-/
import Derived.Test.YtldljohholgmoaaZBut
import Derived.Test.YtldljohholgmoaaZOwn
import Derived.Lib.OthersKept
namespace Go.Proofs.Ytldljohholgmoaa
open Go.RowKit

/-- All below B but block g is as it was. -/
structure Bt (B g : Nat) (w w' : World) : Prop where
  os : w'.os = w.os
  tape : w'.tape = w.tape
  output : w'.output = w.output
  size : w.heap.size ≤ w'.heap.size
  block : ∀ k, k < B → k ≠ g → w'.heap[k]? = w.heap[k]?

theorem Bt.refl (B g : Nat) (w : World) : Bt B g w w := ⟨rfl, rfl, rfl, Nat.le_refl _, fun _ _ _ => rfl⟩
theorem Bt.trans {B g : Nat} {a b c : World} (h : Bt B g a b) (k : Bt B g b c) : Bt B g a c :=
  ⟨k.os.trans h.os, k.tape.trans h.tape, k.output.trans h.output, Nat.le_trans h.size k.size, fun i hi hg => (k.block i hi hg).trans (h.block i hi hg)⟩
theorem Bt.of_but {B g : Nat} {w w' : World} (h : But g w w') (hB : B ≤ w.heap.size) : Bt B g w w' := ⟨h.os, h.tape, h.output, h.size, fun k hk hg => h.block k (by omega) hg⟩
theorem Bt.of_below {B g : Nat} {w w' : World} (h : Below B w w') : Bt B g w w' := ⟨h.os, h.tape, h.output, h.size, fun k hk _ => h.block k hk⟩
theorem Bt.drew {B g : Nat} {a w : World} (h : Bt B g a w) : Bt B g a w.drew := h.trans ⟨rfl, rfl, rfl, Nat.le_refl _, fun _ _ _ => rfl⟩
theorem Bt.drewN {B g : Nat} {a w : World} (h : Bt B g a w) (n : Nat) : Bt B g a (w.drewN n) := h.trans ⟨rfl, rfl, rfl, Nat.le_refl _, fun _ _ _ => rfl⟩
theorem Bt.set {B g : Nat} {a w : World} (h : Bt B g a w) (i : Nat) (u : Value) : Bt B g a (w.setCell ⟨g, i, none⟩ u) :=
  h.trans ⟨rfl, rfl, rfl, by simp, fun k _ hk => Below.heap_setCell w ⟨g, i, none⟩ u k hk⟩
theorem Bt.alloc {B g : Nat} {a w : World} (h : Bt B g a w) (hB : B ≤ w.heap.size) (o : Obj) : Bt B g a (w.alloc o) :=
  h.trans (Bt.of_below ((Below.refl _ _).alloc hB _))
theorem Bt.grown {B g : Nat} {a w w' : World} (h : Bt B g a w) (hB : B ≤ w.heap.size) {row : Option Nat} (hg : w.grownBy w' row) (hr : ∀ k, row = some k → B ≤ k) : Bt B g a w' :=
  h.trans (Bt.of_below ((Below.refl _ _).grown hg hB hr))
theorem Bt.below {B g b : Nat} {a w w' : World} (h : Bt B g w w') (hb : Below b a w) (h1 : b ≤ B) (h2 : b ≤ g) : Below b a w' :=
  hb.trans ⟨h.os, h.tape, h.output, h.size, fun k hk => h.block k (by omega) (by omega)⟩

/-- a row of one's own above the bound, and a block below it. -/
theorem own_but {w w' : World} {B g : Nat} {e : TypeId} {size n : Nat} {v : Value} {xs : List Value} (h : w.ownsRow B e size v n xs) (hb : But g w w') (hg : g < B) : w'.ownsRow B e size v n xs :=
  own_keep h fun k hk he => hb.block k hk (by have := own_ge h he; omega)

theorem own_setCell {w : World} {B g : Nat} {e : TypeId} {size n : Nat} {v : Value} {xs : List Value} (h : w.ownsRow B e size v n xs) (hg : g < B) (i : Nat) (u : Value) : (w.setCell ⟨g, i, none⟩ u).ownsRow B e size v n xs :=
  own_but h (But.set w i u) hg

theorem own_grown {w w' : World} {B : Nat} {e : TypeId} {size n : Nat} {v : Value} {xs : List Value} (h : w.ownsRow B e size v n xs) {row : Option Nat} (hg : w.grownBy w' row) (hne : ∀ k, v.ownBlock = some k → row ≠ some k) : w'.ownsRow B e size v n xs :=
  own_keep h fun k hk he => hg.block k hk (Ne.symm (hne k he))

/-- rows of unlike elements lie apart. -/
theorem own_apart {w : World} {B C : Nat} {e f : TypeId} {s1 s2 n m : Nat} {v u : Value} {xs ys : List Value} (h : w.ownsRow B e s1 v n xs) (k : w.ownsRow C f s2 u m ys) (hne : e ≠ f) : ∀ b, v.ownBlock = some b → u.ownBlock ≠ some b := by
  intro b hb hu
  rcases h.2 with ⟨rfl, _⟩ | ⟨g, cap, cur, rfl, _, hg, _⟩
  · simp [Value.ownBlock] at hb
  · rcases k.2 with ⟨rfl, _⟩ | ⟨g', cap', cur', rfl, _, hg', _⟩
    · simp [Value.ownBlock] at hu
    · simp [Value.ownBlock] at hb hu
      subst hb
      subst hu
      rw [hg] at hg'
      injection hg' with hg'
      injection hg' with _ ht
      exact hne ht

/-- the first none of it. -/
theorem own_none {w : World} {B : Nat} {e : TypeId} {size n : Nat} {g cap : Nat} {xs : List Value} (h : w.ownsRow B e size (.slice (some ⟨g, 0, none⟩) n cap) n xs) : w.ownsRow B e size (.slice (some ⟨g, 0, none⟩) 0 cap) 0 [] := by
  refine ⟨by simp, ?_⟩
  rcases h.2 with ⟨h0, _⟩ | ⟨g', cap', cur, hv, hb, hg, hnc, hcm, hcs, _⟩
  · cases h0
  · injection hv with h1 h2 h3
    injection h1 with h1
    injection h1 with h1
    subst h1
    subst h3
    exact .inr ⟨g, cap, cur, rfl, hb, hg, Nat.zero_le _, hcm, hcs, by simp⟩

theorem own_iter {w : World} {B : Nat} {e : TypeId} {size n : Nat} {v : Value} {xs : List Value} (h : w.ownsRow B e size v n xs) {k : Nat} (hk : k < B) (s : ByteArray) (p : Nat) : (w.iterAt k s p).ownsRow B e size v n xs :=
  own_keep h fun g _ he => Lib.iterAt_other w k g s p (by have := own_ge h he; omega)

theorem Bk.iter {w : World} {g : Nat} {t : TypeId} {cs : Array Value} (h : Bk w g t cs) {k : Nat} (hk : g ≠ k) (s : ByteArray) (p : Nat) : Bk (w.iterAt k s p) g t cs :=
  (Lib.iterAt_other w k g s p hk).trans h

theorem width_pos (s : ByteArray) (p : Nat) (hp : p < s.size) : 1 ≤ (Utf8.decode s p).2 := by
  by_cases ha : (s[p]'hp).toNat < 128
  · rw [decode_ascii s p hp ha]; exact Nat.le_refl _
  · exact (decode_high s p hp (by omega)).2

end Go.Proofs.Ytldljohholgmoaa
