/-
  The walks of CheckOf, CheckParts, CheckSteps: true, in whatever memory whose table holds its sixteen numbers.
-/
import Derived.Test.YtmjfbhpbgppkfaaDoorChkW
import Derived.Test.YtmjfbhpbgppkfaaDoorChkR
namespace Go.Proofs.YtmjfbhpbgppkfaaDoor
open Go.RowKit

theorem checkOf_walk (s : ByteArray) (n : Nat) (w : World) (h32 : n < 4294967296) (hT : HasTab w) :
    Calls Tryd.prog 3 #[.string s, .int .u32 n] w
      fun e w' => e = .returned (.bool true) ∧ Below w.heap.size w w' := by
  by_cases hl : 3000 < s.size
  · have hl' : (3000 : Int) < (s.size : Int) := by omega
    go_enter Tryd.func3, Tryd.ntmps3
    go_wp2_with (go_at_call 8; go_must (refine (awake2 _ hT).mono ?_; rintro e w' ⟨rfl, rfl⟩))
    go_ret
    exact ⟨rfl, Below.refl _ _⟩
  · have hl' : ¬ (3000 : Int) < (s.size : Int) := by omega
    have hs : s.size ≤ 4611686018427387904 := by omega
    go_enter Tryd.func3, Tryd.ntmps3
    go_wp2_with (first | (go_at_call 8; go_must (refine (awake2 _ hT).mono ?_; rintro e w' ⟨rfl, rfl⟩)) | (go_at_call 9; go_must (refine (of_any s _ hT hs).mono ?_; rintro e w' ⟨rfl, rfl⟩)) | (go_at_call 10; go_must (refine (rof_any s _ hs).mono ?_; rintro e w1 ⟨rfl, hb1⟩; have hT1 := hT.below hb1)) | (go_at_call 11; go_must (refine (more_any n s _ h32 hT1 hs).mono ?_; rintro e w' ⟨rfl, rfl⟩)) | (go_at_call 12; go_must (refine (rmore_any n s _ h32 hs).mono ?_; rintro e w2 ⟨rfl, hb2⟩)))
    go_ret
    exact ⟨by simp, hb1.trans (hb2.mono hb1.size)⟩

theorem checkParts_walk (s t : ByteArray) (w : World) (hT : HasTab w) :
    Calls Tryd.prog 4 #[.string s, .string t] w
      fun e w' => e = .returned (.bool true) ∧ Below w.heap.size w w' := by
  by_cases hl : 2000 < s.size
  · have hl' : (2000 : Int) < (s.size : Int) := by omega
    go_enter Tryd.func4, Tryd.ntmps4
    go_wp2_with (go_at_call 8; go_must (refine (awake2 _ hT).mono ?_; rintro e w' ⟨rfl, rfl⟩))
    go_ret
    exact ⟨rfl, Below.refl _ _⟩
  · by_cases hm : 2000 < t.size
    · have hl' : ¬ (2000 : Int) < (s.size : Int) := by omega
      have hm' : (2000 : Int) < (t.size : Int) := by omega
      go_enter Tryd.func4, Tryd.ntmps4
      go_wp2_with (go_at_call 8; go_must (refine (awake2 _ hT).mono ?_; rintro e w' ⟨rfl, rfl⟩))
      go_ret
      exact ⟨rfl, Below.refl _ _⟩
    · have hl' : ¬ (2000 : Int) < (s.size : Int) := by omega
      have hm' : ¬ (2000 : Int) < (t.size : Int) := by omega
      have hs : s.size ≤ 4611686018427387904 := by omega
      have ht : t.size ≤ 4611686018427387904 := by omega
      have hst : (s ++ t).size ≤ 4611686018427387904 := by rw [ByteArray.size_append]; omega
      have h32 := sumN_lt (n := 0) (by omega) (bL_lt s)
      have e1 : sumN (sumN 0 (bL s)) (bL t) = sumN 0 (bL (s ++ t)) := by rw [sumN_append, bL_append]
      have e2 : sumN (sumN 0 (bL s)) (bL ⟨#[]⟩) = sumN 0 (bL s) := sumN_nil _
      have c1 : ∀ w, HasTab w → Calls Tryd.prog 11 #[.int .u32 (sumN 0 (bL s)), .string t] w fun e w' => e = .returned (.int .u32 (sumN 0 (bL (s ++ t)))) ∧ w = w' := fun w h => by
        have := more_any _ t w h32 h ht
        rwa [e1] at this
      have c2 : ∀ w, HasTab w → Calls Tryd.prog 11 #[.int .u32 (sumN 0 (bL s)), .string ⟨#[]⟩] w fun e w' => e = .returned (.int .u32 (sumN 0 (bL s))) ∧ w = w' := fun w h => by
        have := more_any _ ⟨#[]⟩ w h32 h (by decide)
        rwa [e2] at this
      clear e1 e2
      go_enter Tryd.func4, Tryd.ntmps4
      go_wp2_with (first | (go_at_call 8; go_must (refine (awake2 _ hT).mono ?_; rintro e w' ⟨rfl, rfl⟩)) | (go_at_call 9; go_must (first | (with_reducible refine (of_any s _ hT hs).mono ?_; rintro e w' ⟨rfl, rfl⟩) | (with_reducible refine (of_any (s ++ t) _ hT hst).mono ?_; rintro e w' ⟨rfl, rfl⟩))) | (go_at_call 11; go_must (first | (with_reducible refine (c1 _ hT).mono ?_; rintro e w' ⟨rfl, rfl⟩) | (with_reducible refine (c2 _ hT).mono ?_; rintro e w' ⟨rfl, rfl⟩))))
      go_ret
      exact ⟨by simp, Below.refl _ _⟩

end Go.Proofs.YtmjfbhpbgppkfaaDoor
