/-
  What foremanref07.Check answers of a command of few numbers, in whatever memory: nought, if it may be. No conditions but those that stand there.
-/
import Derived.Test.YtldljohholgmoaaZRckC
namespace Go.Proofs.Ytldljohholgmoaa
open Go.RowKit

section
variable (c : Cmd) (ra : Option Addr) (nr rc : Nat) (wa : Option Addr) (nw wc : Nat) (aa : Option Addr) (na ac : Nat) (ca : Option Addr) (nc cc : Nat)

/-- too many numbers: ErrLimit. -/
theorem rcheck_args (w : World) (h1 : nr ≤ 8) (h2 : nw ≤ 8) (h3 : 8 < na) :
    Calls Try.prog 28 #[cmV ra nr rc wa nw wc aa na ac c.fuel ca nc cc] w fun e w' => e = .returned (.int .i64 4) ∧ Below w.heap.size w w' := by
  have B0 := Lib.hid (below_alloc1 w (CmObj ra nr rc wa nw wc aa na ac c.fuel ca nc cc))
  generalize c.fuel = fuel at *
  by_cases g : nr + nw ≤ 8
  · have e0 : decide (8 < (nr : Int) + (nw : Int)) = false := decide_eq_false (by omega)
    have e1 : decide (8 < (na : Int)) = true := decide_eq_true (by omega)
    go_enter Try.func28, Try.ntmps28
    go_wp2
    go_ret
    exact ⟨rfl, B0.out⟩
  · have e0 : decide (8 < (nr : Int) + (nw : Int)) = true := decide_eq_true (by omega)
    go_enter Try.func28, Try.ntmps28
    go_wp2
    go_ret
    exact ⟨rfl, B0.out⟩

theorem rcheck_may (w : World) (h : CmRaw w c ra nr rc wa nw wc aa na ac ca nc cc) (h1 : nr ≤ 8) (h2 : nw ≤ 8) (h4 : nc ≤ 64) :
    ∃ z : Int, (z = 0 ↔ MayBe c) ∧ ∀ W, Below w.heap.size w W → Calls Try.prog 28 #[cmV ra nr rc wa nw wc aa na ac c.fuel ca nc cc] W fun e w' => e = .returned (.int .i64 z) ∧ Below W.heap.size W w' := by
  by_cases g : na ≤ 8
  · have hC : CmIn w c ra nr rc wa nw wc aa na ac ca nc cc := ⟨h.lr, h.lw, h.la, h.lc, h.reads, h.writes, h.args, h.code, by omega, by omega, by omega, by omega⟩
    refine ⟨((checkN c : Nat) : Int), ?_, fun W hW => rcheck_any c ra nr rc wa nw wc aa na ac ca nc cc W (hC.below hW)⟩
    rw [← check_zero c]
    omega
  · refine ⟨4, ⟨fun e => absurd e (by decide), fun hm => ?_⟩, fun W hW => rcheck_args c ra nr rc wa nw wc aa na ac ca nc cc W h1 h2 (by omega)⟩
    obtain ⟨-, h3, -⟩ := hm.few
    have := h.la
    omega

end
end Go.Proofs.Ytldljohholgmoaa
