/-
  What lay.Num and lay.Nums answer, in whatever memory: the bytes of any number, and of a list of at most 2^40 numbers (of the first 255).
-/
import Derived.Test.YtenjjepjmcijhaaLayE
import Derived.Test.YtenjjepjmcijhaaIntS
namespace Go.Proofs.Ytenjjepjmcijhaa
open Go.RowKit

theorem num_str (n : Int) (w : World) :
    Calls Try.prog 18 #[.int .i64 n] w
      fun e w' => e = .returned (.string (strL (numB n))) ∧ Below w.heap.size w w' := by
  have hadd := Lib.hid (addNum_any n (.slice none 0 0) 0 [] w.heap.size w ⟨rfl, .inl ⟨rfl, rfl⟩⟩ (Nat.le_refl _) (by omega))
  go_enter Try.func18, Try.ntmps18
  go_wp2_with (go_at_call 25; go_must ((with_reducible refine hadd.out.mono ?_); rintro e w1 ⟨v', rfl, hown, hb⟩; have hcv := conv_own (l := numB n) (by simpa using hown) (by omega)))
  go_ret
  exact ⟨rfl, hb⟩

end Go.Proofs.Ytenjjepjmcijhaa
