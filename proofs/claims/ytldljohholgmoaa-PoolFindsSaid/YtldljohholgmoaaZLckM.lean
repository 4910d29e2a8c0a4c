/-
  Who waits for which block, in memory: rows of rows of wants. No conditions but those that stand there.
-/
import Derived.Test.YtldljohholgmoaaZWntM
import Derived.Test.YtldljohholgmoaaQStr
namespace Go.Proofs.Ytldljohholgmoaa
open Go.RowKit

/-- an element of such a row: a slice of these who wait, in a row of wants. -/
def isWn (w : World) (v : Value) (l : List Wnt) : Prop := ∃ A n c, v = .slice A n c ∧ l.length = n ∧ Wnts w A c l ∧ Ty w 84 A n
theorem isWn.below {w w' : World} {v : Value} {l : List Wnt} (h : isWn w v l) (hb : Below w.heap.size w w') : isWn w' v l := by
  obtain ⟨A, n, c, rfl, hl, hw, ht⟩ := h
  exact ⟨A, n, c, rfl, hl, hw.below hb, ht.below hb⟩
theorem isWn.nil (w : World) : isWn w (.slice none 0 0) [] := ⟨none, 0, 0, rfl, rfl, Wnts.nil w, Ty.zero⟩
theorem isWn.own {B : Nat} {w : World} {A : Option Addr} {n c : Nat} {l : List Wnt} (h : OwnW B w A n c l) : isWn w (.slice A n c) l := ⟨A, n, c, rfl, h.1, h.sl, Ty.own h.2⟩
/-- a cell of a row of another type turns: it stays. -/
theorem isWn.set {w : World} {v : Value} {l : List Wnt} (h : isWn w v l) {g : Nat} {t : TypeId} {cs : Array Value} (hg : Bk w g t cs) (hne : t ≠ 84) (i : Nat) (u : Value) : isWn (w.setCell ⟨g, i, none⟩ u) v l := by
  obtain ⟨A, n, c, rfl, hl, hw, ht⟩ := h
  unfold Wnts at hw
  rw [hl] at hw
  obtain ⟨h1, h2⟩ := Sl.setCell hw ht hg hne i u
  exact ⟨A, n, c, rfl, hl, by unfold Wnts; rw [hl]; exact h1, h2⟩

/-- the elements of such a row. -/
def LkIn (w : World) (vs : List Value) (L : List (List Wnt)) : Prop := vs.length = L.length ∧ ∀ (i : Nat) (v : Value) (l : List Wnt), vs[i]? = some v → L[i]? = some l → isWn w v l
theorem LkIn.below {w w' : World} {vs : List Value} {L : List (List Wnt)} (h : LkIn w vs L) (hb : Below w.heap.size w w') : LkIn w' vs L := ⟨h.1, fun i v l hv hl => (h.2 i v l hv hl).below hb⟩
theorem LkIn.set {w : World} {vs : List Value} {L : List (List Wnt)} (h : LkIn w vs L) {i : Nat} {v : Value} {l : List Wnt} (hi : isWn w v l) : LkIn w (vs.set i v) (L.set i l) := by
  refine ⟨by rw [List.length_set, List.length_set]; exact h.1, fun j u m hu hm => ?_⟩
  by_cases e : i = j
  · subst e
    have hj : i < vs.length := by
      rcases Nat.lt_or_ge i vs.length with g | g
      · exact g
      · rw [List.getElem?_eq_none (by rw [List.length_set]; omega)] at hu; cases hu
    rw [List.getElem?_set_self hj] at hu
    rw [List.getElem?_set_self (by rw [← h.1]; exact hj)] at hm
    injection hu with hu
    injection hm with hm
    rw [← hu, ← hm]
    exact hi
  · rw [List.getElem?_set_ne e] at hu hm
    exact h.2 j u m hu hm
theorem LkIn.far {w : World} {vs : List Value} {L : List (List Wnt)} (h : LkIn w vs L) {g : Nat} {t : TypeId} {cs : Array Value} (hg : Bk w g t cs) (hne : t ≠ 84) (i : Nat) (u : Value) : LkIn (w.setCell ⟨g, i, none⟩ u) vs L := ⟨h.1, fun j v l hv hl => (h.2 j v l hv hl).set hg hne i u⟩
theorem LkIn.at {w : World} {vs : List Value} {L : List (List Wnt)} (h : LkIn w vs L) {i : Nat} (hi : i < L.length) : ∃ v, vs[i]? = some v ∧ isWn w v (L[i]?.getD []) := by
  have hv : vs[i]? = some (vs[i]'(by rw [h.1]; exact hi)) := List.getElem?_eq_getElem (by rw [h.1]; exact hi)
  have hl : L[i]? = some L[i] := List.getElem?_eq_getElem hi
  refine ⟨_, hv, ?_⟩
  rw [hl]
  exact h.2 i _ _ hv hl
theorem LkIn.one {w : World} {vs : List Value} {L : List (List Wnt)} (h : LkIn w vs L) : ∀ u ∈ vs, u.oneCell' = true := by
  intro u hu
  obtain ⟨i, hi⟩ := List.getElem?_of_mem hu
  have hlt : i < vs.length := (List.getElem?_eq_some_iff.1 hi).1
  obtain ⟨v, hv, A, n, c, rfl, -⟩ := h.at (i := i) (by rw [← h.1]; exact hlt)
  rw [hi] at hv
  injection hv with hv
  rw [hv]
  rfl
theorem LkIn.nil (w : World) (n : Nat) : LkIn w (List.replicate n (.slice none 0 0)) (List.replicate n []) := by
  refine ⟨by simp, fun i v l hv hl => ?_⟩
  have h1 := (List.mem_replicate.1 (List.mem_of_getElem? hv)).2
  have h2 := (List.mem_replicate.1 (List.mem_of_getElem? hl)).2
  rw [h1, h2]
  exact isWn.nil w

/-- a slice of such. -/
def LkSl (w : World) (A : Option Addr) (n c : Nat) (L : List (List Wnt)) : Prop := L.length = n ∧ ∃ vs, Sl w 1 A n c vs ∧ LkIn w vs L
theorem LkSl.below {w w' : World} {A : Option Addr} {n c : Nat} {L : List (List Wnt)} (h : LkSl w A n c L) (hb : Below w.heap.size w w') : LkSl w' A n c L := by
  obtain ⟨hl, vs, hs, hi⟩ := h
  exact ⟨hl, vs, hs.below hb, hi.below hb⟩
theorem LkSl.cap {w : World} {A : Option Addr} {n c : Nat} {L : List (List Wnt)} (h : LkSl w A n c L) : n ≤ c := by
  obtain ⟨-, vs, hs, -⟩ := h
  exact hs.2.1
/-- where an element lies. -/
theorem LkSl.at {w : World} {A : Option Addr} {n c : Nat} {L : List (List Wnt)} (h : LkSl w A n c L) {i : Nat} (hi : i < n) :
    ∃ g off A' n' c', A = some ⟨g, off, none⟩ ∧ g < w.heap.size ∧ w.cell? ⟨g, off + i, none⟩ = some (.slice A' n' c') ∧ (L[i]?.getD []).length = n' ∧ Wnts w A' c' (L[i]?.getD []) ∧ isWn w (.slice A' n' c') (L[i]?.getD []) := by
  obtain ⟨hl, vs, hs, hL⟩ := h
  obtain ⟨g, off, rfl, hg, hc⟩ := hs.2.2.2 (by omega)
  obtain ⟨v, hv, hw⟩ := hL.at (i := i) (by omega)
  obtain ⟨A', n', c', rfl, h1, h2, h3⟩ := hw
  refine ⟨g, off, A', n', c', rfl, hg, ?_, h1, h2, A', n', c', rfl, h1, h2, h3⟩
  rw [hc i (by omega), hv]

/-- a row of one's own of such. -/
def LkOwn (B : Nat) (w : World) (A : Option Addr) (n c : Nat) (L : List (List Wnt)) : Prop := L.length = n ∧ ∃ vs, w.ownsRow B 62 1 (.slice A n c) n vs ∧ LkIn w vs L
theorem LkOwn.sl {B : Nat} {w : World} {A : Option Addr} {n c : Nat} {L : List (List Wnt)} (h : LkOwn B w A n c L) : LkSl w A n c L := by
  obtain ⟨hl, vs, ho, hi⟩ := h
  exact ⟨hl, vs, Sl.own' ho, hi⟩
theorem LkOwn.below {B : Nat} {w w' : World} {A : Option Addr} {n c : Nat} {L : List (List Wnt)} (h : LkOwn B w A n c L) (hb : Below w.heap.size w w') : LkOwn B w' A n c L := by
  obtain ⟨hl, vs, ho, hi⟩ := h
  exact ⟨hl, vs, own_below ho hb, hi.below hb⟩
theorem LkOwn.lower {B B' : Nat} {w : World} {A : Option Addr} {n c : Nat} {L : List (List Wnt)} (h : LkOwn B w A n c L) (hb : B' ≤ B) : LkOwn B' w A n c L := by
  obtain ⟨hl, vs, ho, hi⟩ := h
  exact ⟨hl, vs, own_lower ho hb, hi⟩
/-- where it lies. -/
theorem LkOwn.pos {B : Nat} {w : World} {A : Option Addr} {n c : Nat} {L : List (List Wnt)} (h : LkOwn B w A n c L) (hn : 0 < n) : ∃ g cs, A = some ⟨g, 0, none⟩ ∧ B ≤ g ∧ Bk w g 62 cs ∧ cs.size = c := by
  obtain ⟨hl, vs, ho, hi⟩ := h
  obtain ⟨g, cur, rfl, hg, hk, -, -, hcs, -⟩ := own_pos ho hn
  exact ⟨g, cur, rfl, hg, hk, by omega⟩
/-- an element set. -/
theorem LkOwn.set {B : Nat} {w : World} {g n c : Nat} {L : List (List Wnt)} (h : LkOwn B w (some ⟨g, 0, none⟩) n c L) (hn : 0 < n) {i : Nat} {v : Value} {l : List Wnt} (hv : isWn w v l) : LkOwn B (w.setCell ⟨g, i, none⟩ v) (some ⟨g, 0, none⟩) n c (L.set i l) := by
  obtain ⟨g', cs, hA, -, hk, -⟩ := h.pos hn
  injection hA with hA
  injection hA with hA
  subst hA
  obtain ⟨hl, vs, ho, hi⟩ := h
  have h1 := (ho.stored i v).1
  exact ⟨by rw [List.length_set]; exact hl, vs.set i v, h1, (hi.far hk (by decide) i v).set (hv.set hk (by decide) i v)⟩

/-- an answer: a row of one's own of such. -/
def LkPost (L : List (List Wnt)) (n : Nat) (w : World) (e : Ending) (w' : World) : Prop := ∃ A c, e = .returned (.slice A n c) ∧ LkOwn w.heap.size w' A n c L ∧ Below w.heap.size w w'

end Go.Proofs.Ytldljohholgmoaa
