/-
  What machine.New answers, in whatever memory. No conditions but those that stand there.
-/
import Derived.Test.YtldljohholgmoaaQWords
namespace Go.Proofs.Ytldljohholgmoaa
open Go.RowKit

theorem mnew_any (ra : Option Addr) (nr rc : Nat) (wa : Option Addr) (nw wc : Nat) (aa : Option Addr) (na ac : Nat) (fuel : Int) (ca : Option Addr) (nc cc : Nat) (w : World) :
    Calls Try.prog 30 #[cmV ra nr rc wa nw wc aa na ac fuel ca nc cc] w fun e w' => e = .returned (.agg (mC 0 fuel (.slice none 0 0) 0 0 0 0 (.slice none 0 0) false 0)) ∧ Below w.heap.size w w' := by
  have hr : Hid (Bk ((w.alloc (CmObj ra nr rc wa nw wc aa na ac fuel ca nc cc)).alloc (.cells mZ 38)) (w.heap.size + 1) 38 mZ) := Lib.hid (by
    have := Bk.new (w.alloc (CmObj ra nr rc wa nw wc aa na ac fuel ca nc cc)) 38 mZ
    rwa [World.size_alloc] at this)
  have hB := Lib.hid (((Below.refl w.heap.size w).alloc (Nat.le_refl _) (CmObj ra nr rc wa nw wc aa na ac fuel ca nc cc)).alloc (by rw [World.size_alloc]; omega) (.cells mZ 38))
  go_enter Try.func30, Try.ntmps30
  go_wp2_with (with_reducible refine st_mach (w.heap.size + 1) hr.out rfl rfl _ _ rfl rfl rfl rfl ?_)
  exact bodyPost_ret (v := .agg (mC 0 fuel (.slice none 0 0) 0 0 0 0 (.slice none 0 0) false 0)) (res_mach rfl _ _ (w.heap.size + 1) rfl (Bk.setRow hr.out _)) rfl ⟨rfl, below_row hB.out (by omega) _⟩

end Go.Proofs.Ytldljohholgmoaa
