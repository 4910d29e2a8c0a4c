/-
  The walk of CheckSteps: true, in whatever memory whose table holds its sixteen numbers.
-/
import Derived.Test.YtmjfbhpbgppkfaaDoorChkW
namespace Go.Proofs.YtmjfbhpbgppkfaaDoor
open Go.RowKit

theorem bL_one (s : ByteArray) (i : Nat) (h : i < s.size) : bL (s.extract i (i + 1)) = [(s[i]'h).toNat] := by
  have h1 : (s.extract i (i + 1)).size = 1 := by rw [ByteArray.size_extract]; omega
  apply List.ext_getElem?
  intro j
  cases j with
  | zero =>
    rw [bL_get _ 0 (by omega)]
    simp [ByteArray.getElem_extract]
  | succ j => rw [List.getElem?_eq_none (by rw [bL_length]; omega)]; simp

set_option maxHeartbeats 400000 in
theorem checkSteps_walk (s : ByteArray) (w : World) (hT : HasTab w) :
    Calls Tryd.prog 6 #[.string s] w
      fun e w' => e = .returned (.bool true) ∧ Below w.heap.size w w' := by
  by_cases hl : 1000 < s.size
  · have hl' : (1000 : Int) < (s.size : Int) := by omega
    go_enter Tryd.func6, Tryd.ntmps6
    go_wp2_with (go_at_call 8; go_must (refine (awake2 _ hT).mono ?_; rintro e w' ⟨rfl, rfl⟩))
    go_ret
    exact ⟨rfl, Below.refl _ _⟩
  · have hl' : ¬ (1000 : Int) < (s.size : Int) := by omega
    have hs : s.size ≤ 4611686018427387904 := by omega
    go_enter Tryd.func6, Tryd.ntmps6
    go_wp2_with (go_at_call 9; go_must (refine (aw2 _ hT).mono ?_; rintro e w' ⟨rfl, rfl⟩))
    go_loop [3, 4] (fun x c => ∃ i : Nat, i ≤ s.size ∧ c = .int .i64 i ∧ x = .int .u32 (sumN 0 ((bL s).take i) : Nat)) (fun _ c => s.size - (intOf c).toNat)
    case atStart => exact ⟨0, Nat.zero_le _, rfl, by rw [List.take_zero, sumN_nil]; rfl⟩
    case round =>
      obtain ⟨i, hi, rfl, rfl⟩ := hrel
      by_cases hlt : i < s.size
      · have h32 := sumN_lt (n := 0) (by omega) (bL_take_lt s i)
        have hc : ∀ w, HasTab w → Calls Tryd.prog 11 #[.int .u32 (sumN 0 ((bL s).take i)), .string (s.extract i (i + 1))] w fun e w' => e = .returned (.int .u32 (sumN 0 ((bL s).take (i + 1)))) ∧ w = w' := fun w h => by
          have := more_any _ (s.extract i (i + 1)) w h32 h (by rw [ByteArray.size_extract]; omega)
          rwa [sumN_append, bL_one s i hlt, ← bL_take s i hlt] at this
        go_wp2_with (go_at_call 11; go_must (refine (hc _ hT).mono ?_; rintro e w' ⟨rfl, rfl⟩))
        go_round
        case rel => exact ⟨i + 1, by omega, by go_num, rfl⟩
        case measure => simp [intOf]; omega
      · obtain rfl : i = s.size := by omega
        have he : (bL s).take s.size = bL s := List.take_of_length_le (by rw [bL_length]; omega)
        rw [he]
        go_wp2_with (first | (go_at_call 8; go_must (refine (awake2 _ hT).mono ?_; rintro e w' ⟨rfl, rfl⟩)) | (go_at_call 9; go_must (refine (of_any s _ hT hs).mono ?_; rintro e w' ⟨rfl, rfl⟩)))
        go_ret
        exact ⟨by simp, Below.refl _ _⟩

end Go.Proofs.YtmjfbhpbgppkfaaDoor
