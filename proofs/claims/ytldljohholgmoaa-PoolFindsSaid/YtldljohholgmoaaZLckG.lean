/-
  Lists of those who wait stay where a row of another type grows; rows of one's own of commands, their cells alone. No conditions but those that stand there.
-/
import Derived.Test.YtldljohholgmoaaZLckM
import Derived.Test.YtldljohholgmoaaZCmsM
import Derived.Test.YtldljohholgmoaaZOwn
import Derived.Test.YtldljohholgmoaaZRowX
namespace Go.Proofs.Ytldljohholgmoaa
open Go.RowKit

theorem Sl.grown {w w' : World} {size n c : Nat} {A : Option Addr} {xs : List Value} {t : TypeId} {row : Option Nat} (h : Sl w size A n c xs) (hT : Ty w t A n) (hg : w.grownBy w' row) (hr : ∀ b cur, w.heap[b]? = some (.cells cur t (0, 0)) → some b ≠ row) : Sl w' size A n c xs ∧ Ty w' t A n := by
  refine ⟨⟨h.1, h.2.1, h.2.2.1, fun hn => ?_⟩, fun hn => ?_⟩
  · obtain ⟨b, off, e1, hb, hc⟩ := h.2.2.2 hn
    obtain ⟨b', off', e2, cur, hcur⟩ := hT hn
    rw [e1] at e2
    simp only [Option.some.injEq, Addr.mk.injEq] at e2
    obtain ⟨rfl, rfl, _⟩ := e2
    refine ⟨b, off, e1, Nat.lt_of_lt_of_le hb hg.size, fun j hj => ?_⟩
    rw [World.cell?_of_block (w := w) (hg.block b hb (hr b cur hcur))]
    exact hc j hj
  · obtain ⟨b, off, e, cur, hcur⟩ := hT hn
    exact ⟨b, off, e, cur, (hg.block b (Bk.lt (t := t) (cs := cur) hcur) (hr b cur hcur)).trans hcur⟩

theorem isWn.grown {w w' : World} {v : Value} {l : List Wnt} {row : Option Nat} (h : isWn w v l) (hg : w.grownBy w' row) (hr : ∀ b cur, w.heap[b]? = some (.cells cur 84 (0, 0)) → some b ≠ row) : isWn w' v l := by
  obtain ⟨A, n, c, rfl, hl, hw, ht⟩ := h
  unfold Wnts at hw
  rw [hl] at hw
  obtain ⟨h1, h2⟩ := hw.grown ht hg hr
  exact ⟨A, n, c, rfl, hl, by unfold Wnts; rw [hl]; exact h1, h2⟩

theorem LkOwn.grown {B : Nat} {w w' : World} {A : Option Addr} {n c : Nat} {L : List (List Wnt)} {row : Option Nat} (h : LkOwn B w A n c L) (hg : w.grownBy w' row) (hr : ∀ b cur, w.heap[b]? = some (.cells cur 84 (0, 0)) → some b ≠ row) (hr2 : ∀ b cur, w.heap[b]? = some (.cells cur 62 (0, 0)) → some b ≠ row) : LkOwn B w' A n c L := by
  obtain ⟨hl, vs, ho, hi⟩ := h
  refine ⟨hl, vs, own_keep ho fun k hk he => hg.block k hk ?_, hi.1, fun i v l hv hl => (hi.2 i v l hv hl).grown hg hr⟩
  rcases ho.2 with ⟨h0, -⟩ | ⟨g, cap, cur, h0, -, hgg, -⟩
  · rw [h0] at he
    simp [Value.ownBlock] at he
  · rw [h0] at he
    simp [Value.ownBlock] at he
    subst he
    exact hr2 g cur hgg

/-- a row's block is of its elements' type alone. -/
theorem own_other {w : World} {B : Nat} {e t : TypeId} {s n : Nat} {v : Value} {ys : List Value} (h : w.ownsRow B e s v n ys) (hne : e ≠ t) : ∀ b cur, w.heap[b]? = some (.cells cur t (0, 0)) → some b ≠ v.ownBlock := by
  intro b cur hb he
  rcases h.2 with ⟨rfl, -⟩ | ⟨g, cap, cur', rfl, -, hg, -⟩
  · simp [Value.ownBlock] at he
  · simp [Value.ownBlock] at he
    subst he
    rw [hg] at hb
    injection hb with hb
    injection hb with _ ht
    exact hne ht

/-- the cells of a row of one's own of commands. -/
def OwnC (B : Nat) (w : World) (A : Option Addr) (n c : Nat) (l : List CmL) : Prop := l.length = n ∧ w.ownsRow B 33 5 (.slice A n c) n (cmlsW l)
theorem OwnC.below {B : Nat} {w w' : World} {A : Option Addr} {n c : Nat} {l : List CmL} (h : OwnC B w A n c l) (hb : Below w.heap.size w w') : OwnC B w' A n c l := ⟨h.1, own_below h.2 hb⟩
theorem OwnC.nil (B : Nat) (w : World) : OwnC B w none 0 0 [] := ⟨rfl, rfl, .inl ⟨rfl, rfl⟩⟩
theorem OwnC.cap {B : Nat} {w : World} {A : Option Addr} {n c : Nat} {l : List CmL} (h : OwnC B w A n c l) : n ≤ c := (Sl.own' h.2).2.1
theorem OwnC.lies {B : Nat} {w : World} {A : Option Addr} {n c : Nat} {l : List CmL} (h : OwnC B w A n c l) {i : Nat} {x : CmL} (hx : l[i]? = some x) : ∃ g, A = some ⟨g, 0, none⟩ ∧ CmAt w g (i * 5) x := by
  have hi : i < n := by
    rw [← h.1]
    rcases Nat.lt_or_ge i l.length with q | q
    · exact q
    · rw [List.getElem?_eq_none q] at hx; cases hx
  obtain ⟨g, cur, rfl, -⟩ := own_pos h.2 (by omega)
  refine ⟨g, rfl, fun X hX => ?_⟩
  obtain ⟨b', off', e, hb', hc⟩ := Sl.recs (Sl.own' (own_below h.2 hX)) cmlC_length (by decide) hx
  injection e with e
  injection e with e1 e2
  subst e1
  subst e2
  rw [Nat.zero_add] at hc
  exact ⟨hc 0 (by decide), hc 1 (by decide), hc 2 (by decide), hc 3 (by decide), hc 4 (by decide), hb'⟩

end Go.Proofs.Ytldljohholgmoaa
