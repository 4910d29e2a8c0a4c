/-
  What digits of layer 4's laws answers, in whatever memory: a number's digits, for numbers of 2^40 at most either way.
-/
import Derived.Test.YtncpnfcdoegpcaaTokM
import Derived.Test.YtncpnfcdoegpcaaTokW
import Derived.Laws.Runes
namespace Go.Proofs.Ytncpnfcdoegpcaa
open Go.RowKit

theorem strL_cons (b : Nat) (l : List Nat) : (⟨#[UInt8.ofNat b]⟩ : ByteArray) ++ strL l = strL (b :: l) := by
  apply ByteArray.ext; simp [strL]
theorem strL_app (l m : List Nat) : strL l ++ strL m = strL (l ++ m) := by
  apply ByteArray.ext; simp [strL]

theorem encode_digit (d : Nat) (h : d < 10) : Utf8.encode (48 + (d : Int)) = strL [48 + d] := by
  rcases (show d = 0 ∨ d = 1 ∨ d = 2 ∨ d = 3 ∨ d = 4 ∨ d = 5 ∨ d = 6 ∨ d = 7 ∨ d = 8 ∨ d = 9 by omega) with rfl | rfl | rfl | rfl | rfl | rfl | rfl | rfl | rfl | rfl <;> rfl

theorem decN_len (n : Nat) : n ≤ 1099511627776 → (decN n).length ≤ 41 := by
  have key : ∀ k n : Nat, n < 10 ^ (k + 1) → (decN n).length ≤ k + 1 := by
    intro k
    induction k with
    | zero => intro n hn; rw [decN_small (by simpa using hn)]; simp
    | succ k ih =>
      intro n hn
      by_cases h : n < 10
      · rw [decN_small h]; simp
      · rw [decN_large h, List.length_append, List.length_singleton]
        have := ih (n / 10) (by rw [Nat.pow_succ] at hn; omega)
        omega
  intro h
  exact key 40 n (by omega)

set_option maxHeartbeats 2000000 in
theorem digitsN (n : Nat) : n ≤ 1099511627776 → ∀ w : World, Calls Try.prog 11 #[.int .i64 (n : Nat)] w fun e w' => e = .returned (.string (strL (decN n))) ∧ w = w' := by
  induction n using Nat.strongRecOn with
  | ind n ih =>
    intro hn w
    have f0 : ¬ (n : Int) < 0 := by omega
    by_cases h : n < 10
    · have f1 : (n : Int) < 10 := by omega
      have he := encode_digit n h
      rw [decN_small h]
      go_enter Try.func11, Try.ntmps11
      go_wp2
      go_ret
      exact ⟨rfl, rfl⟩
    · have f1 : ¬ (n : Int) < 10 := by omega
      have hd0 := ih (n / 10) (by omega) (by omega) w
      rw [show ((n / 10 : Nat) : Int) = (n : Int) / 10 by omega] at hd0
      have hd := Lib.hid hd0
      have he := encode_digit (n % 10) (by omega)
      rw [show ((n % 10 : Nat) : Int) = (n : Int) % 10 by omega] at he
      have hl := decN_len (n / 10) (by omega)
      have hz := strL_size (decN (n / 10))
      have hz1 := strL_size [48 + n % 10]
      have hz2 : ¬ 9223372036854775807 < (strL (decN (n / 10))).size + (strL [48 + n % 10]).size := by rw [hz, hz1, List.length_singleton]; omega
      clear hd0 ih
      rw [decN_large h]
      go_enter Try.func11, Try.ntmps11
      go_wp2_with (go_at_call 11; go_must ((with_reducible refine hd.out.mono ?_); rintro e w1 ⟨rfl, rfl⟩))
      go_ret
      exact ⟨by rw [← strL_app]; rfl, rfl⟩

set_option maxHeartbeats 2000000 in
theorem digitsZ (n : Int) (h1 : -1099511627776 ≤ n) (h2 : n ≤ 1099511627776) (w : World) : Calls Try.prog 11 #[.int .i64 n] w fun e w' => e = .returned (.string (strL (decZ n))) ∧ w = w' := by
  by_cases h : n < 0
  · have hd0 := digitsN n.natAbs (by omega) w
    rw [show ((n.natAbs : Nat) : Int) = -n by omega] at hd0
    have hd := Lib.hid hd0
    have hz := strL_size (decN n.natAbs)
    have hl := decN_len n.natAbs (by omega)
    have hz2 : ¬ 9223372036854775807 < 1 + (strL (decN n.natAbs)).size := by rw [hz]; omega
    rw [decZ, if_pos h]
    clear hd0
    go_enter Try.func11, Try.ntmps11
    go_wp2_with (go_at_call 11; go_must ((with_reducible refine hd.out.mono ?_); rintro e w1 ⟨rfl, rfl⟩))
    go_ret
    exact ⟨by rw [← strL_cons]; rfl, rfl⟩
  · have hd0 := digitsN n.natAbs (by omega) w
    rw [show ((n.natAbs : Nat) : Int) = n by omega] at hd0
    rw [decZ, if_neg h]
    exact hd0

end Go.Proofs.Ytncpnfcdoegpcaa
