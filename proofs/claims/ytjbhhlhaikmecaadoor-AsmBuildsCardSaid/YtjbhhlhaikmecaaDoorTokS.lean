/-
  What the reference's letter and digit answer, in whatever memory; a row of runes. No conditions but those that stand there.
-/
import Derived.Test.YtjbhhlhaikmecaaDoorTokX
namespace Go.Proofs.YtjbhhlhaikmecaaDoor
open Go.RowKit

theorem rletter_is (c : Nat) (b : Bool) (h : decide (isLetter c) = b) (w : World) :
    Calls Tryd.prog 37 #[.int .i32 (c : Nat)] w fun e w' => e = .returned (.bool b) ∧ w = w' := by
  subst h
  by_cases h1 : 97 ≤ c
  · have e1 : decide ((97 : Int) ≤ (c : Int)) = true := by simp; omega
    by_cases h2 : c ≤ 122
    · have e2 : decide ((c : Int) ≤ 122) = true := by simp; omega
      go_enter Tryd.func37, Tryd.ntmps37
      go_wp2
      go_ret
      exact ⟨by simp [isLetter, h1, h2], rfl⟩
    · have e2 : decide ((c : Int) ≤ 122) = false := by simp; omega
      go_enter Tryd.func37, Tryd.ntmps37
      go_wp2
      go_ret
      exact ⟨by simp [isLetter, h1, h2], rfl⟩
  · have e1 : decide ((97 : Int) ≤ (c : Int)) = false := by simp; omega
    go_enter Tryd.func37, Tryd.ntmps37
    go_wp2
    go_ret
    exact ⟨by simp [isLetter, h1], rfl⟩

theorem rdigit_is (c : Nat) (b : Bool) (h : decide (isDigit c) = b) (w : World) :
    Calls Tryd.prog 38 #[.int .i32 (c : Nat)] w fun e w' => e = .returned (.bool b) ∧ w = w' := by
  subst h
  by_cases h1 : 48 ≤ c
  · have e1 : decide ((48 : Int) ≤ (c : Int)) = true := by simp; omega
    by_cases h2 : c ≤ 57
    · have e2 : decide ((c : Int) ≤ 57) = true := by simp; omega
      go_enter Tryd.func38, Tryd.ntmps38
      go_wp2
      go_ret
      exact ⟨by simp [isDigit, h1, h2], rfl⟩
    · have e2 : decide ((c : Int) ≤ 57) = false := by simp; omega
      go_enter Tryd.func38, Tryd.ntmps38
      go_wp2
      go_ret
      exact ⟨by simp [isDigit, h1, h2], rfl⟩
  · have e1 : decide ((48 : Int) ≤ (c : Int)) = false := by simp; omega
    go_enter Tryd.func38, Tryd.ntmps38
    go_wp2
    go_ret
    exact ⟨by simp [isDigit, h1], rfl⟩

def i32s (l : List Nat) : List Value := l.map fun b : Nat => Value.int .i32 (b : Int)
theorem i32s_snoc (l : List Nat) (b : Nat) : i32s (l ++ [b]) = i32s l ++ [.int .i32 (b : Int)] := by simp [i32s]

theorem infoRune : ∃ i, Tryd.prog.info? 21 = some i ∧ i.zero = some (.int .i32 0) ∧ i.size = 1 ∧ i.bytes = 4 := by
  have h : (Tryd.prog.info? 21).map (fun i => (i.zero, i.size, i.bytes)) = some (some (.int .i32 0), 1, 4) := by kernel_rfl
  cases hi : Tryd.prog.info? 21 with
  | none => rw [hi] at h; cases h
  | some i =>
    rw [hi] at h
    simp only [Option.map_some, Option.some.injEq, Prod.mk.injEq] at h
    exact ⟨i, rfl, h.1, h.2.1, h.2.2⟩

theorem drop_at {R : List Nat} {j r : Nat} (h : R[j]? = some r) : R.drop j = r :: R.drop (j + 1) := by
  obtain ⟨hj, e⟩ := List.getElem?_eq_some_iff.1 h
  rw [List.drop_eq_getElem_cons hj, e]

theorem drop_out {R : List Nat} {j : Nat} (h : R.length ≤ j) : R.drop j = [] := List.drop_eq_nil_of_le h

/-- the runes that a slice has, place by place, in a world above the one in which it was made. -/
theorem runes_at {w1 wr : World} {b off N : Nat} {R : List Nat} (hN : R.length = N) (hb : Below w1.heap.size w1 wr) (hbl : b < w1.heap.size) (hc : ∀ j, j < N * 1 → w1.cell? ⟨b, off + j, none⟩ = (i32s R)[j]?) :
    ∀ j, j < N → ∃ r, R[j]? = some r ∧ R.drop j = r :: R.drop (j + 1) ∧ wr.cell? ⟨b, off + j, none⟩ = some (.int .i32 (r : Nat)) := by
  intro j hj
  have hj' : j < R.length := by omega
  have e : R[j]? = some R[j] := List.getElem?_eq_getElem hj'
  refine ⟨R[j], e, drop_at e, ?_⟩
  rw [bcells hb b (off + j) hbl, hc j (by omega)]
  simp [i32s, hj']

end Go.Proofs.YtjbhhlhaikmecaaDoor
