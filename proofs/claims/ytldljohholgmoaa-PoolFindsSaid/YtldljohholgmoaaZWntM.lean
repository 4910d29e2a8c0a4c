/-
  Who waits, in memory: rows of wants. No conditions but those that stand there.
-/
import Derived.Test.YtldljohholgmoaaZRecW
import Derived.Test.YtldljohholgmoaaZBt
import Derived.Test.YtldljohholgmoaaZBlw
import Derived.Test.YtldljohholgmoaaQStr
namespace Go.Proofs.Ytldljohholgmoaa
open Go.RowKit

instance : Inhabited Wnt := ⟨⟨0, false, false⟩⟩

/-- one who waits, as cells. -/
def wnC (x : Wnt) : List Value := [.int .i64 x.seq, .bool x.excl, .bool x.has]
def wntsW (l : List Wnt) : List Value := l.flatMap wnC
/-- the same as a value. -/
abbrev wnV (s : Int) (e h : Bool) : Array Value := #[.int .i64 s, .bool e, .bool h]
theorem wnC_length (x : Wnt) : (wnC x).length = 3 := rfl
theorem wntsW_length (l : List Wnt) : (wntsW l).length = l.length * 3 := recs_length wnC_length l
theorem wntsW_one (l : List Wnt) : ∀ u ∈ wntsW l, u.oneCell' = true := recs_one (fun x u hu => by
  simp only [wnC, List.mem_cons, List.not_mem_nil, or_false] at hu
  rcases hu with rfl | rfl | rfl <;> rfl) l
theorem wntsW_append (l m : List Wnt) : wntsW (l ++ m) = wntsW l ++ wntsW m := by simp [wntsW]
theorem wntsW_sing (x : Wnt) : wntsW [x] = wnC x := by simp [wntsW]
theorem wntsW_take (l : List Wnt) (n : Nat) : (wntsW l).take (n * 3) = wntsW (l.take n) := recs_take wnC_length l n

theorem infoWnt : ∃ i, Try.prog.info? 84 = some i ∧ i.zero = some (.agg (wnV 0 false false)) ∧ i.size = 3 ∧ i.bytes = 16 := by
  have h : (Try.prog.info? 84).map (fun i => (i.zero, i.size, i.bytes)) = some (some (.agg (wnV 0 false false)), 3, 16) := by kernel_rfl
  cases hi : Try.prog.info? 84 with
  | none => rw [hi] at h; cases h
  | some i =>
    rw [hi] at h
    simp only [Option.map_some, Option.some.injEq, Prod.mk.injEq] at h
    exact ⟨i, rfl, h.1, h.2.1, h.2.2⟩

/-- a slice of those who wait. -/
def Wnts (w : World) (A : Option Addr) (c : Nat) (l : List Wnt) : Prop := Sl w 3 A l.length c (wntsW l)
theorem Wnts.below {w w' : World} {A : Option Addr} {c : Nat} {l : List Wnt} (h : Wnts w A c l) (hb : Below w.heap.size w w') : Wnts w' A c l := Sl.below h hb
theorem Wnts.nil (w : World) : Wnts w none 0 [] := ⟨rfl, Nat.le_refl _, fun _ => ⟨rfl, rfl⟩, fun h => absurd h (by simp)⟩
theorem wnt_at {l : List Wnt} {i : Nat} (h : i < l.length) : ∃ x, l[i]? = some x := ⟨l[i], List.getElem?_eq_getElem h⟩
theorem Wnts.at {w : World} {A : Option Addr} {c : Nat} {l : List Wnt} (h : Wnts w A c l) {i : Nat} {x : Wnt} (hx : l[i]? = some x) :
    ∃ b off, A = some ⟨b, off, none⟩ ∧ b < w.heap.size ∧ w.cell? ⟨b, off + i * 3, none⟩ = some (.int .i64 x.seq) ∧ w.cell? ⟨b, off + i * 3 + 1, none⟩ = some (.bool x.excl) ∧ w.cell? ⟨b, off + i * 3 + 2, none⟩ = some (.bool x.has) := by
  obtain ⟨b, off, rfl, hb, hc⟩ := Sl.recs h wnC_length (by decide) hx
  exact ⟨b, off, rfl, hb, hc 0 (by decide), hc 1 (by decide), hc 2 (by decide)⟩

/-- a row of one's own of those who wait. -/
def OwnW (B : Nat) (w : World) (A : Option Addr) (n c : Nat) (l : List Wnt) : Prop := l.length = n ∧ w.ownsRow B 84 3 (.slice A n c) n (wntsW l)
theorem OwnW.sl {B : Nat} {w : World} {A : Option Addr} {n c : Nat} {l : List Wnt} (h : OwnW B w A n c l) : Wnts w A c l := by
  obtain ⟨rfl, h⟩ := h
  exact Sl.own' h
theorem OwnW.below {B : Nat} {w w' : World} {A : Option Addr} {n c : Nat} {l : List Wnt} (h : OwnW B w A n c l) (hb : Below w.heap.size w w') : OwnW B w' A n c l := ⟨h.1, own_below h.2 hb⟩
theorem OwnW.lower {B B' : Nat} {w : World} {A : Option Addr} {n c : Nat} {l : List Wnt} (h : OwnW B w A n c l) (hb : B' ≤ B) : OwnW B' w A n c l := ⟨h.1, own_lower h.2 hb⟩
theorem OwnW.cap {B : Nat} {w : World} {A : Option Addr} {n c : Nat} {l : List Wnt} (h : OwnW B w A n c l) : n ≤ c := by
  have := h.sl.2.1
  rw [h.1] at this
  exact this

/-- an answer: a row of one's own of those who wait. -/
def WnPost (l : List Wnt) (w : World) (e : Ending) (w' : World) : Prop :=
  ∃ A n c, e = .returned (.slice A n c) ∧ OwnW w.heap.size w' A n c l ∧ Below w.heap.size w w'

/-- where one lies in a row of one's own; and one's Has turned. -/
theorem OwnW.at {B : Nat} {w : World} {A : Option Addr} {n c : Nat} {l : List Wnt} (h : OwnW B w A n c l) {i : Nat} {x : Wnt} (hx : l[i]? = some x) :
    ∃ g, A = some ⟨g, 0, none⟩ ∧ B ≤ g ∧ g < w.heap.size ∧ (∀ o, w.frozen? ⟨g, o, none⟩ = false) ∧ w.cell? ⟨g, i * 3, none⟩ = some (.int .i64 x.seq) ∧ w.cell? ⟨g, i * 3 + 1, none⟩ = some (.bool x.excl) ∧ w.cell? ⟨g, i * 3 + 2, none⟩ = some (.bool x.has) := by
  have hi : i < n := by
    rw [← h.1]
    rcases Nat.lt_or_ge i l.length with h | h
    · exact h
    · rw [List.getElem?_eq_none h] at hx; cases hx
  obtain ⟨g, cur, rfl, hg, hk, -⟩ := own_pos h.2 (by omega)
  obtain ⟨b, off, hA, hb, c0, c1, c2⟩ := h.sl.at hx
  injection hA with hA
  injection hA with hA1 hA2
  subst hA1
  subst hA2
  rw [Nat.zero_add] at c0 c1 c2
  exact ⟨g, rfl, hg, hb, fun o => hk.frozen o, c0, c1, c2⟩

theorem OwnW.setHas {B : Nat} {w : World} {g n c : Nat} {l : List Wnt} (h : OwnW B w (some ⟨g, 0, none⟩) n c l) {i : Nat} {x : Wnt} (hx : l[i]? = some x) (b : Bool) : OwnW B (w.setCell ⟨g, i * 3 + 2, none⟩ (.bool b)) (some ⟨g, 0, none⟩) n c (l.set i ⟨x.seq, x.excl, b⟩) := by
  refine ⟨by rw [List.length_set]; exact h.1, ?_⟩
  have := (h.2.stored (i * 3 + 2) (.bool b)).1
  rw [show wntsW (l.set i ⟨x.seq, x.excl, b⟩) = (wntsW l).set (i * 3 + 2) (.bool b) from (recs_set1 wnC_length l hx (by decide) rfl).symm]
  exact this

theorem OwnW.setAll {B : Nat} {w : World} {g n c : Nat} {l : List Wnt} (h : OwnW B w (some ⟨g, 0, none⟩) n c l) {i : Nat} (hi : i < n) (y : Wnt) : OwnW B (w.setCells g (i * 3) (wnC y)) (some ⟨g, 0, none⟩) n c (l.set i y) := by
  refine ⟨by rw [List.length_set]; exact h.1, ?_⟩
  have := own_setCells (wnC y) (i * 3) h.2
  rwa [show setL (wntsW l) (i * 3) (wnC y) = wntsW (l.set i y) from recs_set wnC_length l (by rw [h.1]; exact hi) y] at this

theorem OwnW.take {B : Nat} {w : World} {A : Option Addr} {n c : Nat} {l : List Wnt} (h : OwnW B w A n c l) {k : Nat} (hk : k ≤ n) : OwnW B w A k c (l.take k) := by
  refine ⟨by rw [List.length_take, h.1]; omega, ?_⟩
  rw [← wntsW_take]
  exact own_take h.2 hk

end Go.Proofs.Ytldljohholgmoaa
