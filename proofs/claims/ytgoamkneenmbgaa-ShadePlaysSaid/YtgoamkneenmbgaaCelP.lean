/-
  Blocks, on plain numbers: eight cells, their bytes, a cell that is got or put. No conditions but those that stand there.
-/
import Derived.Test.YtgoamkneenmbgaaLayQ
namespace Go.Proofs.Ytgoamkneenmbgaa
open Go.RowKit

def getC (b : List Int) (i : Int) : Int := if 0 ≤ i ∧ i < 8 then b[i.toNat]?.getD 0 else 0
def putC (b : List Int) (i n : Int) : List Int := if 0 ≤ i ∧ i < 8 then b.set i.toNat n else b

theorem putC_length (b : List Int) (i n : Int) : (putC b i n).length = b.length := by
  unfold putC
  split <;> simp

theorem getC_putC {b : List Int} (h : b.length = 8) (i j n : Int) : getC (putC b j n) i = if i = j ∧ 0 ≤ j ∧ j < 8 then n else getC b i := by
  unfold getC putC
  by_cases hj : 0 ≤ j ∧ j < 8
  · rw [if_pos hj]
    by_cases hi : 0 ≤ i ∧ i < 8
    · rw [if_pos hi, if_pos hi]
      by_cases e : i = j
      · rw [if_pos ⟨e, hj⟩, e]
        simp [show j.toNat < b.length by omega]
      · rw [if_neg (fun g => e g.1), List.getElem?_set_ne (by omega)]
    · rw [if_neg hi, if_neg hi, if_neg (by rintro ⟨g1, g2⟩; omega)]
  · rw [if_neg hj, if_neg (show ¬ (i = j ∧ 0 ≤ j ∧ j < 8) from fun g => hj g.2)]

/-- another cell first, or second: the same. -/
theorem putC_comm (b : List Int) {i j : Int} (h : i ≠ j) (m n : Int) : putC (putC b i m) j n = putC (putC b j n) i m := by
  unfold putC
  by_cases hi : 0 ≤ i ∧ i < 8
  · by_cases hj : 0 ≤ j ∧ j < 8
    · rw [if_pos hi, if_pos hj, if_pos hj, if_pos hi, List.set_comm _ _ (by omega)]
    · rw [if_neg hj, if_neg hj]
  · rw [if_neg hi, if_neg hi]
/-- the same cell keeps the last number. -/
theorem putC_twice (b : List Int) (i m n : Int) : putC (putC b i m) i n = putC b i n := by
  unfold putC
  by_cases hi : 0 ≤ i ∧ i < 8
  · rw [if_pos hi, if_pos hi, if_pos hi, List.set_set]
  · simp only [if_neg hi]

/-- a block's bytes. -/
def cellB (b : List Int) : List Nat := b.flatMap numB

def inB (b : List Int) : Prop := ∀ x ∈ b, -9223372036854775808 ≤ x ∧ x ≤ 9223372036854775807

theorem cellB_length (b : List Int) : (cellB b).length = 8 * b.length := flat_length b
theorem cellB_lt (b : List Int) : ∀ x ∈ cellB b, x < 256 := flat_lt b

theorem putC_in {b : List Int} (h : inB b) (i : Int) {n : Int} (hn : -9223372036854775808 ≤ n ∧ n ≤ 9223372036854775807) : inB (putC b i n) := by
  unfold putC
  split
  · intro x hx
    rcases List.mem_or_eq_of_mem_set hx with hx | rfl
    · exact h x hx
    · exact hn
  · exact h

theorem cells_stand (b : List Int) : ∀ i, i < b.length → Stands (strL (cellB b)) (0 + 8 * i) (b[i]?.getD 0) := fun i hi k hk => by
  rw [bL_strL _ (cellB_lt b), Nat.zero_add]
  exact flat_at b i k hi hk

/-- a block is read as it was, and no byte is left. -/
theorem cell_back {b : List Int} (h : inB b) : numsOf (strL (cellB b)) b.length ⟨0, false⟩ = b ∧ itN (strL (cellB b)) b.length ⟨0, false⟩ = ⟨((8 * b.length : Nat) : Int), false⟩ := by
  have h1 := numsOf_back (p := 0) (cells_stand b) h
  have h2 := itN_back (p := 0) (cells_stand b) h b.length (Nat.le_refl _)
  rw [Nat.zero_add] at h2
  exact ⟨h1, h2⟩
theorem cell_done {b : List Int} (h : inB b) : doneV (strL (cellB b)) (itN (strL (cellB b)) b.length ⟨0, false⟩) = true := by
  rw [(cell_back h).2]
  unfold doneV
  have : (strL (cellB b)).size = 8 * b.length := by rw [← bL_length, bL_strL _ (cellB_lt b), cellB_length]
  rw [this]
  simp

/-- unlike blocks have unlike bytes. -/
theorem cell_apart {a b : List Int} (hl : a.length = b.length) (ha : inB a) (hb : inB b) (h : cellB a = cellB b) : a = b := by
  rw [← (cell_back ha).1, h, hl, (cell_back hb).1]

end Go.Proofs.Ytgoamkneenmbgaa
