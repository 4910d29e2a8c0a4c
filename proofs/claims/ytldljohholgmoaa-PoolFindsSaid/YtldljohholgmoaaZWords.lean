/-
  Words for memory: a block known whole, a slice value that reads as a list of cells; how they are kept. They name no function and no type of the program. No conditions.
-/
import Derived.Test.YtldljohholgmoaaRows
import Derived.WalkKit
import Derived.WalkSpells
import Derived.WalkLawsBesides
import Derived.WalkSmall
import Derived.Lib.Hide
namespace Go.Proofs.Ytldljohholgmoaa
open Go.RowKit

/-- Behind 'Below' nothing that was there has turned. -/
theorem bcells {W w1 : World} (hb : Below W.heap.size W w1) : ∀ b o, b < W.heap.size → w1.cell? ⟨b, o, none⟩ = W.cell? ⟨b, o, none⟩ :=
  fun b o h => hb.cell (p := ⟨b, o, none⟩) h

theorem bfrozens {W w1 : World} (hb : Below W.heap.size W w1) : ∀ b o, b < W.heap.size → w1.frozen? ⟨b, o, none⟩ = W.frozen? ⟨b, o, none⟩ :=
  fun b o h => hb.frozen (p := ⟨b, o, none⟩) h

/-- Two steps, each of which leaves all that lay there. -/
theorem bnext {a b c : World} (h : Below a.heap.size a b) (k : Below b.heap.size b c) : Below a.heap.size a c := h.trans (k.mono h.size)

/-- Block g is just these cells; none is frozen. -/
def Bk (w : World) (g : Nat) (t : TypeId) (cs : Array Value) : Prop := w.heap[g]? = some (.cells cs t (0, 0))

theorem Bk.lt {w : World} {g : Nat} {t : TypeId} {cs : Array Value} (h : Bk w g t cs) : g < w.heap.size := by
  rcases Nat.lt_or_ge g w.heap.size with hlt | hge
  · exact hlt
  · unfold Bk at h; rw [Array.getElem?_eq_none hge] at h; cases h

theorem Bk.new (w : World) (t : TypeId) (cs : Array Value) : Bk (w.alloc (.cells cs t)) w.heap.size t cs := heap_alloc_new w _

theorem Bk.below {w w' : World} {g : Nat} {t : TypeId} {cs : Array Value} (h : Bk w g t cs) (hb : Below w.heap.size w w') : Bk w' g t cs := (hb.block g h.lt).trans h

theorem Bk.alloc {w : World} {g : Nat} {t : TypeId} {cs : Array Value} (h : Bk w g t cs) (o : Obj) : Bk (w.alloc o) g t cs := h.below ((Below.refl _ _).alloc (Nat.le_refl _) _)

theorem Bk.far {w : World} {g : Nat} {t : TypeId} {cs : Array Value} (h : Bk w g t cs) {p : Addr} (hp : g ≠ p.block) (u : Value) : Bk (w.setCell p u) g t cs := (Below.heap_setCell w p u g hp).trans h

theorem Bk.set {w : World} {g : Nat} {t : TypeId} {cs : Array Value} (h : Bk w g t cs) (i : Nat) (u : Value) : Bk (w.setCell ⟨g, i, none⟩ u) g t (cs.setIfInBounds i u) := by
  unfold Bk at h ⊢
  simp [World.setCell, Array.getElem?_modify, h]

theorem Bk.cell {w : World} {g : Nat} {t : TypeId} {cs : Array Value} (h : Bk w g t cs) (i : Nat) : w.cell? ⟨g, i, none⟩ = cs[i]? := cell_of_row w g i cs t (0, 0) h

theorem Bk.frozen {w : World} {g : Nat} {t : TypeId} {cs : Array Value} (h : Bk w g t cs) (i : Nat) : w.frozen? ⟨g, i, none⟩ = false := by
  unfold Bk at h
  simp [World.frozen?, h]

theorem Bk.four {w : World} {g : Nat} {t : TypeId} {a b c d : Value} (h : Bk w g t #[a, b, c, d]) :
    w.cell? ⟨g, 0, none⟩ = some a ∧ w.cell? ⟨g, 1, none⟩ = some b ∧ w.cell? ⟨g, 2, none⟩ = some c ∧ w.cell? ⟨g, 3, none⟩ = some d ∧ ∀ o, w.frozen? ⟨g, o, none⟩ = false :=
  ⟨h.cell 0, h.cell 1, h.cell 2, h.cell 3, fun o => h.frozen o⟩

/-- The slice '.slice A n c' has the cells xs, and lies in memory that is there. -/
def Sl (w : World) (size : Nat) (A : Option Addr) (n c : Nat) (xs : List Value) : Prop :=
  xs.length = n * size ∧ n ≤ c ∧ (A = none → n = 0 ∧ c = 0) ∧
    (0 < n → ∃ b off, A = some ⟨b, off, none⟩ ∧ b < w.heap.size ∧ ∀ j, j < n * size → w.cell? ⟨b, off + j, none⟩ = xs[j]?)

theorem Sl.keep {w w' : World} {size n c : Nat} {A : Option Addr} {xs : List Value} (h : Sl w size A n c xs) (hs : w.heap.size ≤ w'.heap.size)
    (hk : ∀ b o, b < w.heap.size → w'.cell? ⟨b, o, none⟩ = w.cell? ⟨b, o, none⟩) : Sl w' size A n c xs :=
  ⟨h.1, h.2.1, h.2.2.1, fun hn => by
    obtain ⟨b, off, e, hb, hc⟩ := h.2.2.2 hn
    exact ⟨b, off, e, by omega, fun j hj => (hk b _ hb).trans (hc j hj)⟩⟩

theorem Sl.below {w w' : World} {size n c : Nat} {A : Option Addr} {xs : List Value} (h : Sl w size A n c xs) (hb : Below w.heap.size w w') : Sl w' size A n c xs :=
  h.keep hb.size (bcells hb)

theorem Sl.alloc {w : World} {size n c : Nat} {A : Option Addr} {xs : List Value} (h : Sl w size A n c xs) (o : Obj) : Sl (w.alloc o) size A n c xs :=
  h.below ((Below.refl _ _).alloc (Nat.le_refl _) _)

theorem Sl.olds {w : World} {size n c : Nat} {A : Option Addr} {xs : List Value} (h : Sl w size A n c xs) : ∀ b, A = some b → ∀ j u, xs[j]? = some u → w.cell? (b.add j) = some u := by
  intro b hb j u hu
  have hj : j < xs.length := by
    rcases Nat.lt_or_ge j xs.length with hlt | hge
    · exact hlt
    · rw [List.getElem?_eq_none hge] at hu; cases hu
  have hn : 0 < n := by
    rcases Nat.eq_zero_or_pos n with e | e
    · rw [h.1, e] at hj; simp at hj
    · exact e
  obtain ⟨b', off, e, _, hc⟩ := h.2.2.2 hn
  rw [hb] at e
  injection e with e
  subst e
  rw [Addr.add_lit, hc j (by rw [← h.1]; exact hj), hu]

theorem bfresh {w w' : World} (hg : w.grownBy w' none) : Below w.heap.size w w' := (Below.refl _ _).grown hg (Nat.le_refl _) (by simp)

/-- Out of a row that the call has made. -/
theorem Sl.own {w : World} {base : Nat} {e : TypeId} {size n : Nat} {v : Value} {xs : List Value} (h : w.ownsRow base e size v n xs) :
    ∃ A c, v = .slice A n c ∧ Sl w size A n c xs := by
  obtain ⟨hl, hh⟩ := h
  rcases hh with ⟨rfl, rfl⟩ | ⟨g, cap, cur, rfl, hb, hg, hnc, hcm, hcs, htake⟩
  · exact ⟨none, 0, rfl, hl, Nat.le_refl _, fun _ => ⟨rfl, rfl⟩, fun h => absurd h (by omega)⟩
  · refine ⟨_, _, rfl, hl, hnc, fun h => by simp at h, fun _ => ⟨g, 0, rfl, ?_, fun j hj => ?_⟩⟩
    · rcases Nat.lt_or_ge g w.heap.size with hlt | hge
      · exact hlt
      · rw [Array.getElem?_eq_none hge] at hg; cases hg
    · rw [cell_of_row w g (0 + j) cur e (0, 0) hg, ← htake, List.getElem?_take, if_pos hj]
      simp

/-- A row that the call has made stays so behind a call that leaves all that lay there. -/
theorem own_below {w w' : World} {base : Nat} {e : TypeId} {size n : Nat} {v : Value} {xs : List Value} (h : w.ownsRow base e size v n xs) (hb : Below w.heap.size w w') :
    w'.ownsRow base e size v n xs := by
  obtain ⟨hl, hh⟩ := h
  refine ⟨hl, ?_⟩
  rcases hh with h0 | ⟨g, cap, cur, e1, hbg, hg, r⟩
  · exact .inl h0
  · refine .inr ⟨g, cap, cur, e1, hbg, ?_, r⟩
    rw [hb.block g ?_]
    · exact hg
    · rcases Nat.lt_or_ge g w.heap.size with hlt | hge
      · exact hlt
      · rw [Array.getElem?_eq_none hge] at hg; cases hg

theorem Sl.own' {w : World} {base : Nat} {e : TypeId} {size n : Nat} {A : Option Addr} {c : Nat} {xs : List Value} (h : w.ownsRow base e size (.slice A n c) n xs) : Sl w size A n c xs := by
  obtain ⟨A', c', hv, hs⟩ := Sl.own h
  injection hv with h1 h2 h3
  subst h1
  subst h3
  exact hs

/-- What speaks of the heap alone goes over to a world with the same heap. -/
theorem own_heap {w w' : World} {base : Nat} {e : TypeId} {size n : Nat} {v : Value} {xs : List Value} (h : w.ownsRow base e size v n xs) (hh : w'.heap = w.heap) : w'.ownsRow base e size v n xs := by
  unfold World.ownsRow at h ⊢
  rw [hh]
  exact h

theorem Bk.heap {w w' : World} {g : Nat} {t : TypeId} {cs : Array Value} (h : Bk w g t cs) (hh : w'.heap = w.heap) : Bk w' g t cs := by
  unfold Bk at h ⊢
  rw [hh]
  exact h

theorem below_heap {B : Nat} {a w w' : World} (h : Below B a w) (hh : w'.heap = w.heap) (h1 : w'.os = w.os) (h2 : w'.tape = w.tape) (h3 : w'.output = w.output) : Below B a w' :=
  ⟨h1.trans h.os, h2.trans h.tape, h3.trans h.output, by rw [hh]; exact h.size, fun k hk => by rw [hh]; exact h.block k hk⟩

/-- The slice's cells lie in a row of that element type. -/
def Ty (w : World) (e : TypeId) (A : Option Addr) (n : Nat) : Prop := 0 < n → ∃ b off, A = some ⟨b, off, none⟩ ∧ ∃ cur, w.heap[b]? = some (.cells cur e (0, 0))

theorem Ty.below {w w' : World} {e : TypeId} {A : Option Addr} {n : Nat} (h : Ty w e A n) (hb : Below w.heap.size w w') : Ty w' e A n := fun hn => by
  obtain ⟨b, off, hA, cur, hc⟩ := h hn
  exact ⟨b, off, hA, cur, (Bk.below (t := e) (cs := cur) hc hb)⟩

theorem Ty.own {w : World} {base : Nat} {e : TypeId} {size n : Nat} {A : Option Addr} {c : Nat} {xs : List Value} (h : w.ownsRow base e size (.slice A n c) n xs) : Ty w e A n := fun hn => by
  rcases h.2 with ⟨h', h0⟩ | ⟨g, cap, cur, h', hb, hg, _⟩
  · omega
  · injection h' with h1
    exact ⟨g, 0, h1, cur, hg⟩

theorem Ty.zero {w : World} {e : TypeId} {A : Option Addr} : Ty w e A 0 := fun h => absurd h (by omega)

theorem Bk.ne {w : World} {g b : Nat} {t e : TypeId} {cs cur : Array Value} (h : Bk w g t cs) (h' : w.heap[b]? = some (.cells cur e (0, 0))) (hne : t ≠ e) : b ≠ g := by
  rintro rfl
  unfold Bk at h
  rw [h] at h'
  injection h' with h'
  injection h' with _ ht
  exact hne ht

theorem Sl.setCell {w : World} {size n c : Nat} {A : Option Addr} {xs : List Value} {e t : TypeId} {g : Nat} {cs : Array Value} (h : Sl w size A n c xs) (hT : Ty w e A n) (hg : Bk w g t cs) (hne : t ≠ e) (i : Nat) (u : Value) :
    Sl (w.setCell ⟨g, i, none⟩ u) size A n c xs ∧ Ty (w.setCell ⟨g, i, none⟩ u) e A n := by
  refine ⟨⟨h.1, h.2.1, h.2.2.1, fun hn => ?_⟩, fun hn => ?_⟩
  · obtain ⟨b, off, e1, hb, hc⟩ := h.2.2.2 hn
    obtain ⟨b', off', e2, cur, hcur⟩ := hT hn
    rw [e1] at e2
    simp only [Option.some.injEq, Addr.mk.injEq] at e2
    obtain ⟨rfl, rfl, _⟩ := e2
    have hbg := hg.ne hcur hne
    refine ⟨b, off, e1, by simpa [World.setCell] using hb, fun j hj => ?_⟩
    rw [World.cell?_of_block (w := w) (Below.heap_setCell w ⟨g, i, none⟩ u b hbg)]
    exact hc j hj
  · obtain ⟨b', off', e2, cur, hcur⟩ := hT hn
    have hbg := hg.ne hcur hne
    exact ⟨b', off', e2, cur, (Below.heap_setCell w ⟨g, i, none⟩ u b' hbg).trans hcur⟩

theorem below_drew1 (w : World) : Below w.heap.size w w.drew := (Below.refl _ _).drew

theorem Bk.store4 {w : World} {g : Nat} {t : TypeId} {a b c d : Value} (hg : Bk w g t #[a, b, c, d]) (x0 x1 x2 x3 : Value) :
    Bk ((((w.setCell ⟨g, 0, none⟩ x0).setCell ⟨g, 1, none⟩ x1).setCell ⟨g, 2, none⟩ x2).setCell ⟨g, 3, none⟩ x3) g t #[x0, x1, x2, x3] := by
  have := (((hg.set 0 x0).set 1 x1).set 2 x2).set 3 x3
  simpa using this

theorem Bk.two {w : World} {g : Nat} {t : TypeId} {a b : Value} (h : Bk w g t #[a, b]) : w.cell? ⟨g, 0, none⟩ = some a ∧ w.cell? ⟨g, 1, none⟩ = some b ∧ ∀ o, w.frozen? ⟨g, o, none⟩ = false :=
  ⟨h.cell 0, h.cell 1, fun o => h.frozen o⟩

theorem Bk.three {w : World} {g : Nat} {t : TypeId} {a b c : Value} (h : Bk w g t #[a, b, c]) : w.cell? ⟨g, 0, none⟩ = some a ∧ w.cell? ⟨g, 1, none⟩ = some b ∧ w.cell? ⟨g, 2, none⟩ = some c ∧ ∀ o, w.frozen? ⟨g, o, none⟩ = false :=
  ⟨h.cell 0, h.cell 1, h.cell 2, fun o => h.frozen o⟩

theorem Bk.store3 {w : World} {g : Nat} {t : TypeId} {a b c : Value} (hg : Bk w g t #[a, b, c]) (x0 x1 x2 : Value) : Bk (((w.setCell ⟨g, 0, none⟩ x0).setCell ⟨g, 1, none⟩ x1).setCell ⟨g, 2, none⟩ x2) g t #[x0, x1, x2] := by
  have := ((hg.set 0 x0).set 1 x1).set 2 x2
  simpa using this

end Go.Proofs.Ytldljohholgmoaa
