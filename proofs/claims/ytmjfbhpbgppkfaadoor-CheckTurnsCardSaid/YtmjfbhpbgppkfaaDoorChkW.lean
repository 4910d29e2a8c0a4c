/-
  What awake of layer 2 answers (the document's examples): true, in whatever memory whose table holds its sixteen numbers.
-/
import Derived.Test.YtmjfbhpbgppkfaaDoorChkA
namespace Go.Proofs.YtmjfbhpbgppkfaaDoor
open Go.RowKit

theorem ex1 : sumN 0 (bL ⟨#[49, 50, 51, 52, 53, 54, 55, 56, 57]⟩) = 3421780262 := by decide +kernel
theorem ex2 : sumN 0 (bL ⟨#[]⟩) = 0 := by decide +kernel
theorem ex3 : sumN 0 (bL ⟨#[49, 50, 51, 52]⟩) = 2615402659 := by decide +kernel
theorem ex4 : sumN 2615402659 (bL ⟨#[53, 54, 55, 56, 57]⟩) = 3421780262 := by decide +kernel

theorem aw1 (w : World) (hT : HasTab w) : Calls Tryd.prog 9 #[.string ⟨#[49, 50, 51, 52, 53, 54, 55, 56, 57]⟩] w fun e w' => e = .returned (.int .u32 3421780262) ∧ w = w' := by
  have := of_any ⟨#[49, 50, 51, 52, 53, 54, 55, 56, 57]⟩ w hT (by decide)
  rw [ex1] at this
  exact this
theorem aw2 (w : World) (hT : HasTab w) : Calls Tryd.prog 9 #[.string ⟨#[]⟩] w fun e w' => e = .returned (.int .u32 0) ∧ w = w' := by
  have := of_any ⟨#[]⟩ w hT (by decide)
  rw [ex2] at this
  exact this
theorem aw3 (w : World) (hT : HasTab w) : Calls Tryd.prog 9 #[.string ⟨#[49, 50, 51, 52]⟩] w fun e w' => e = .returned (.int .u32 2615402659) ∧ w = w' := by
  have := of_any ⟨#[49, 50, 51, 52]⟩ w hT (by decide)
  rw [ex3] at this
  exact this
theorem aw4 (w : World) (hT : HasTab w) : Calls Tryd.prog 11 #[.int .u32 2615402659, .string ⟨#[53, 54, 55, 56, 57]⟩] w fun e w' => e = .returned (.int .u32 3421780262) ∧ w = w' := by
  have := more_any 2615402659 ⟨#[53, 54, 55, 56, 57]⟩ w (by omega) hT (by decide)
  rw [ex4] at this
  exact this

theorem awake2 (w : World) (hT : HasTab w) :
    Calls Tryd.prog 8 #[] w fun e w' => e = .returned (.bool true) ∧ w = w' := by
  go_enter Tryd.func8, Tryd.ntmps8
  go_wp2_with (first | (go_at_call 9; go_must (first | (refine (aw1 _ hT).mono ?_; rintro e w' ⟨rfl, rfl⟩) | (refine (aw2 _ hT).mono ?_; rintro e w' ⟨rfl, rfl⟩) | (refine (aw3 _ hT).mono ?_; rintro e w' ⟨rfl, rfl⟩))) | (go_at_call 11; go_must (refine (aw4 _ hT).mono ?_; rintro e w' ⟨rfl, rfl⟩)))
  go_ret
  exact ⟨rfl, rfl⟩

end Go.Proofs.YtmjfbhpbgppkfaaDoor
