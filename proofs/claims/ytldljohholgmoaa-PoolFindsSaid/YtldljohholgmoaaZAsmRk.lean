/-
  What the reference's Takes of layer 5 answers, in whatever memory. No conditions.
-/
import Derived.Test.YtldljohholgmoaaQStr
import Derived.Test.YtldljohholgmoaaZWords
import Derived.Deep.DeepMust
namespace Go.Proofs.Ytldljohholgmoaa
open Go.RowKit

theorem rtakes_any (op : Int) (w : World) :
    Calls Try.prog 59 #[.int .i64 op] w fun e w' => e = .returned (.int .i64 (takesN op : Nat)) ∧ w = w' := by
  by_cases h : op = 4 ∨ op = 5 ∨ op = 1 ∨ op = 2 ∨ op = 3 ∨ op = 6 ∨ op = 13 ∨ op = 14
  · rcases h with rfl | rfl | rfl | rfl | rfl | rfl | rfl | rfl <;>
    · go_enter Try.func59, Try.ntmps59
      go_wp2
      go_ret
      exact ⟨rfl, rfl⟩
  · have hz : takesN op = 0 := by unfold takesN; rw [if_neg (by omega), if_neg (by omega)]
    have e0 : (op == 4) = false := by simp; omega
    have e1 : (op == 5) = false := by simp; omega
    have e2 : (op == 1) = false := by simp; omega
    have e3 : (op == 2) = false := by simp; omega
    have e4 : (op == 3) = false := by simp; omega
    have e5 : (op == 6) = false := by simp; omega
    have e6 : (op == 13) = false := by simp; omega
    have e7 : (op == 14) = false := by simp; omega
    rw [hz]
    clear h hz
    go_enter Try.func59, Try.ntmps59
    go_wp2
    go_ret
    exact ⟨rfl, rfl⟩

end Go.Proofs.Ytldljohholgmoaa
