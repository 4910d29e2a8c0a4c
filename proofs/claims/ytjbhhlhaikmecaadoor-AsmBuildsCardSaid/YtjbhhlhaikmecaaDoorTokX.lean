/-
  Strings out of numbers, letters and digits as strings, how long digits are. No conditions but those that stand there.
-/
import Derived.Test.YtjbhhlhaikmecaaDoorTokV
import Derived.Laws.Runes
namespace Go.Proofs.YtjbhhlhaikmecaaDoor
open Go.RowKit

theorem strL_cons (b : Nat) (l : List Nat) : (⟨#[UInt8.ofNat b]⟩ : ByteArray) ++ strL l = strL (b :: l) := by
  apply ByteArray.ext; simp [strL]
theorem strL_app (l m : List Nat) : strL l ++ strL m = strL (l ++ m) := by
  apply ByteArray.ext; simp [strL]

theorem encode_digit (d : Nat) (h : d < 10) : Utf8.encode (48 + (d : Int)) = strL [48 + d] := by
  rcases (show d = 0 ∨ d = 1 ∨ d = 2 ∨ d = 3 ∨ d = 4 ∨ d = 5 ∨ d = 6 ∨ d = 7 ∨ d = 8 ∨ d = 9 by omega) with rfl | rfl | rfl | rfl | rfl | rfl | rfl | rfl | rfl | rfl <;> rfl

theorem decN_len (n : Nat) : n ≤ 1099511627776 → (decN n).length ≤ 41 := by
  have key : ∀ k n : Nat, n < 10 ^ (k + 1) → (decN n).length ≤ k + 1 := by
    intro k
    induction k with
    | zero => intro n hn; rw [decN_small (by simpa using hn)]; simp
    | succ k ih =>
      intro n hn
      by_cases h : n < 10
      · rw [decN_small h]; simp
      · rw [decN_large h, List.length_append, List.length_singleton]
        have := ih (n / 10) (by rw [Nat.pow_succ] at hn; omega)
        omega
  intro h
  exact key 40 n (by omega)

theorem encode_letter (c : Nat) (h : isLetter c) : Utf8.encode (c : Int) = strL [c] := by
  have h' : 97 ≤ c ∧ c ≤ 122 := h
  have hv : Utf8.valid (c : Int) = true := by rw [validRune_eq]; exact decide_eq_true (.inl ⟨by omega, by omega⟩)
  unfold Utf8.encode
  rw [if_pos hv, Int.toNat_natCast, if_pos (by omega)]
  rfl

end Go.Proofs.YtjbhhlhaikmecaaDoor
