/-
  A law's list of deeds on a block's list, in memory. No conditions but those that stand there.
-/
import Derived.Test.YtbgdadofpjjpdaaWntM
namespace Go.Proofs.Ytbgdadofpjjpdaa
open Go.RowKit

/-- a deed: one asks, or gives back. -/
structure ActQ where
  ask : Bool
  excl : Bool
  seq : Int
instance : Inhabited ActQ := ⟨⟨false, false, 0⟩⟩
def aqC (x : ActQ) : List Value := [.bool x.ask, .bool x.excl, .int .i64 x.seq]
def aqsW (l : List ActQ) : List Value := l.flatMap aqC
theorem aqC_length (x : ActQ) : (aqC x).length = 3 := rfl
/-- a slice of deeds. -/
def Acts14 (w : World) (A : Option Addr) (c : Nat) (l : List ActQ) : Prop := Sl w 3 A l.length c (aqsW l)
theorem Acts14.below {w w' : World} {A : Option Addr} {c : Nat} {l : List ActQ} (h : Acts14 w A c l) (hb : Below w.heap.size w w') : Acts14 w' A c l := Sl.below h hb
theorem act_at {l : List ActQ} {i : Nat} (h : i < l.length) : ∃ x, l[i]? = some x := ⟨l[i], List.getElem?_eq_getElem h⟩
theorem Acts14.at {w : World} {A : Option Addr} {c : Nat} {l : List ActQ} (h : Acts14 w A c l) {i : Nat} {x : ActQ} (hx : l[i]? = some x) :
    ∃ b off, A = some ⟨b, off, none⟩ ∧ b < w.heap.size ∧ w.cell? ⟨b, off + i * 3, none⟩ = some (.bool x.ask) ∧ w.cell? ⟨b, off + i * 3 + 1, none⟩ = some (.bool x.excl) ∧ w.cell? ⟨b, off + i * 3 + 2, none⟩ = some (.int .i64 x.seq) := by
  obtain ⟨b, off, rfl, hb, hc⟩ := Sl.recs h aqC_length (by decide) hx
  exact ⟨b, off, rfl, hb, hc 0 (by decide), hc 1 (by decide), hc 2 (by decide)⟩

/-- what a deed leaves. -/
def doQ (l : List Wnt) (x : ActQ) : List Wnt := if x.ask = true then askN l x.seq x.excl else giveN l x.seq
/-- behind the first so many. -/
def playQ (l : List Wnt) (a : List ActQ) (i : Nat) : List Wnt := (a.take i).foldl doQ l
theorem playQ_zero (l : List Wnt) (a : List ActQ) : playQ l a 0 = l := rfl
theorem playQ_succ (l : List Wnt) {a : List ActQ} {i : Nat} {x : ActQ} (hx : a[i]? = some x) : playQ l a (i + 1) = doQ (playQ l a i) x := by
  unfold playQ
  rw [List.take_add_one, hx, Option.toList_some, List.foldl_append]
  rfl

end Go.Proofs.Ytbgdadofpjjpdaa
