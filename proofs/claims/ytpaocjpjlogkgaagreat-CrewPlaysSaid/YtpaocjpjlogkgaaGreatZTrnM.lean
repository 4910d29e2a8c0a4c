/-
  A law's list of turns, in memory. No conditions but those that stand there.
-/
import Derived.Test.YtpaocjpjlogkgaaGreatQWords
namespace Go.Proofs.YtpaocjpjlogkgaaGreat
open Go.RowKit

/-- a turn: a pick, or a step; whose; of which number. -/
structure Trn where
  pick : Bool
  worker : Int
  seq : Int
instance : Inhabited Trn := ⟨⟨false, 0, 0⟩⟩
def trC (x : Trn) : List Value := [.bool x.pick, .int .i64 x.worker, .int .i64 x.seq]
def trsW (l : List Trn) : List Value := l.flatMap trC
theorem trC_length (x : Trn) : (trC x).length = 3 := rfl
/-- a slice of turns. -/
def Trns (w : World) (A : Option Addr) (c : Nat) (l : List Trn) : Prop := Sl w 3 A l.length c (trsW l)
theorem Trns.below {w w' : World} {A : Option Addr} {c : Nat} {l : List Trn} (h : Trns w A c l) (hb : Below w.heap.size w w') : Trns w' A c l := Sl.below h hb
theorem trn_at {l : List Trn} {i : Nat} (h : i < l.length) : ∃ x, l[i]? = some x := ⟨l[i], List.getElem?_eq_getElem h⟩
theorem Trns.at {w : World} {A : Option Addr} {c : Nat} {l : List Trn} (h : Trns w A c l) {i : Nat} {x : Trn} (hx : l[i]? = some x) :
    ∃ b off, A = some ⟨b, off, none⟩ ∧ b < w.heap.size ∧ ∀ W, Below w.heap.size w W → W.cell? ⟨b, off + i * 3, none⟩ = some (.bool x.pick) ∧ W.cell? ⟨b, off + i * 3 + 1, none⟩ = some (.int .i64 x.worker) ∧ W.cell? ⟨b, off + i * 3 + 2, none⟩ = some (.int .i64 x.seq) ∧ b < W.heap.size := by
  obtain ⟨b, off, rfl, hb, hc⟩ := Sl.recs h trC_length (by decide) hx
  refine ⟨b, off, rfl, hb, fun W hW => ?_⟩
  have key : ∀ j, W.cell? ⟨b, j, none⟩ = w.cell? ⟨b, j, none⟩ := fun j => hW.cell (p := ⟨b, j, none⟩) hb
  exact ⟨(key _).trans (hc 0 (by decide)), (key _).trans (hc 1 (by decide)), (key _).trans (hc 2 (by decide)), Nat.lt_of_lt_of_le hb hW.size⟩
theorem Trns.cap {w : World} {A : Option Addr} {c : Nat} {l : List Trn} (h : Trns w A c l) : l.length ≤ c := h.2.1

end Go.Proofs.YtpaocjpjlogkgaaGreat
