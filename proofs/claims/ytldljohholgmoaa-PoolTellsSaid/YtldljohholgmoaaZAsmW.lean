/-
  A slice of instructions in memory. No conditions but those that stand there.
-/
import Derived.Test.YtldljohholgmoaaQStr
import Derived.Test.YtldljohholgmoaaZWords
import Derived.Test.YtldljohholgmoaaZOwn
namespace Go.Proofs.Ytldljohholgmoaa
open Go.RowKit

def insW (x : Ins) : List Value := [.int .i64 x.op, .int .i64 x.a, .int .i64 x.b]

def inssW (l : List Ins) : List Value := l.flatMap insW

theorem inssW_snoc (l : List Ins) (x : Ins) : inssW (l ++ [x]) = inssW l ++ insW x := by simp [inssW]

theorem inssW_at : ∀ (l : List Ins) (j : Nat), j < l.length → (inssW l)[j * 3]? = some (.int .i64 (insAt l j).op) ∧ (inssW l)[j * 3 + 1]? = some (.int .i64 (insAt l j).a) ∧ (inssW l)[j * 3 + 2]? = some (.int .i64 (insAt l j).b)
  | [], j, h => by simp at h
  | u :: l, 0, _ => ⟨rfl, rfl, rfl⟩
  | u :: l, j + 1, h => by
    have ih := inssW_at l j (by simpa using h)
    have e : ∀ k, (inssW (u :: l))[(j + 1) * 3 + k]? = (inssW l)[j * 3 + k]? := fun k => by
      rw [show (j + 1) * 3 + k = (j * 3 + k) + 3 by omega]
      rfl
    exact ⟨(e 0).trans ih.1, (e 1).trans ih.2.1, (e 2).trans ih.2.2⟩

/-- a slice of instructions. -/
def Inss (w : World) (A : Option Addr) (c : Nat) (l : List Ins) : Prop := Sl w 3 A l.length c (inssW l)

theorem Inss.nil (w : World) : Inss w none 0 [] := ⟨rfl, Nat.le_refl _, fun _ => ⟨rfl, rfl⟩, fun h => absurd h (by simp)⟩

theorem Inss.below {w w' : World} {A : Option Addr} {c : Nat} {l : List Ins} (h : Inss w A c l) (hb : Below w.heap.size w w') : Inss w' A c l := Sl.below h hb

theorem Inss.own {w : World} {B : Nat} {v : Value} {l : List Ins} (h : w.ownsRow B 57 3 v l.length (inssW l)) : ∃ A c, v = .slice A l.length c ∧ Inss w A c l := Sl.own h

theorem Inss.cellAt {w : World} {A : Option Addr} {c : Nat} {l : List Ins} (h : Inss w A c l) {j : Nat} (hj : j < l.length) :
    ∃ b off, A = some ⟨b, off, none⟩ ∧ b < w.heap.size ∧ w.cell? ⟨b, off + j * 3, none⟩ = some (.int .i64 (insAt l j).op) ∧ w.cell? ⟨b, off + j * 3 + 1, none⟩ = some (.int .i64 (insAt l j).a) ∧ w.cell? ⟨b, off + j * 3 + 2, none⟩ = some (.int .i64 (insAt l j).b) := by
  obtain ⟨b, off, rfl, hb, hc⟩ := h.2.2.2 (by omega)
  obtain ⟨e0, e1, e2⟩ := inssW_at l j hj
  refine ⟨b, off, rfl, hb, ?_, ?_, ?_⟩
  · rw [hc (j * 3) (by omega), e0]
  · rw [Nat.add_assoc, hc (j * 3 + 1) (by omega), e1]
  · rw [Nat.add_assoc, hc (j * 3 + 2) (by omega), e2]

theorem infoIns : ∃ i, Try.prog.info? 57 = some i ∧ i.zero = some (.agg #[.int .i64 0, .int .i64 0, .int .i64 0]) ∧ i.size = 3 ∧ i.bytes = 24 := by
  have h : (Try.prog.info? 57).map (fun i => (i.zero, i.size, i.bytes)) = some (some (.agg #[.int .i64 0, .int .i64 0, .int .i64 0]), 3, 24) := by kernel_rfl
  cases hi : Try.prog.info? 57 with
  | none => rw [hi] at h; cases h
  | some i =>
    rw [hi] at h
    simp only [Option.map_some, Option.some.injEq, Prod.mk.injEq] at h
    exact ⟨i, rfl, h.1, h.2.1, h.2.2⟩

/-- a block of one instruction. -/
def iCells (x : Ins) : Array Value := #[.int .i64 x.op, .int .i64 x.a, .int .i64 x.b]
abbrev IObj (x : Ins) : Obj := .cells #[.int .i64 x.op, .int .i64 x.a, .int .i64 x.b] 57

theorem inssW_length (l : List Ins) : (inssW l).length = l.length * 3 := by
  induction l with
  | nil => rfl
  | cons x l ih => rw [inssW, List.flatMap_cons, List.length_append, List.length_cons]; rw [inssW] at ih; rw [ih]; simp [insW]; omega

end Go.Proofs.Ytldljohholgmoaa
