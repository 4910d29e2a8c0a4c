/-
  What a machine, its command and its blocks must be like so that a step has something to work on; a machine of a command that may be is like that. No conditions but those that stand there.
-/
import Derived.Test.YtehaknnoplcbcaaRunP
namespace Go.Proofs.Ytehaknnoplcbcaa
open Go.RowKit

/-- what an instruction works on is there. -/
structure FitI (c : Cmd) (x : Ins) (m : Mac) (own : Blks) : Prop where
  op : 1 ≤ x.op ∧ x.op ≤ 17
  reg : x.op = 2 ∨ x.op = 3 → 0 ≤ x.a ∧ x.a < 4
  blk : x.op = 4 ∨ x.op = 5 → 0 ≤ x.a ∧ x.a < own.length
  arg : x.op = 6 → 0 ≤ x.a ∧ x.a < c.args.length
  way : x.op = 13 ∨ x.op = 14 → 0 ≤ x.a ∧ x.a ≤ 1000
  off : offN x.op ≤ m.stack.length

structure Fit (c : Cmd) (m : Mac) (own : Blks) : Prop where
  fuel : 0 ≤ m.fuel ∧ m.fuel ≤ 1000
  deep : m.stack.length ≤ 100
  outs : m.out.length ≤ 100
  regs : m.regs.length = 4
  cells : ∀ b ∈ own, b.length = 8
  many : own.length ≤ 100
  goes : m.over = false → m.fuel ≠ 0 → 0 ≤ m.pc ∧ m.pc < c.code.length ∧ c.code.length ≤ 1000 ∧ FitI c (insAt c.code m.pc.toNat) m own

theorem fit_of {c : Cmd} {d : List Int} {m : Mac} {own : Blks} (hc : MayBe c) (hd : depthsN c.code = .ok d) (hm : MOk c d m own) (hf : m.fuel ≤ 1000) : Fit c m own := by
  obtain ⟨f1, f2, f3, f4, f5, f6⟩ := hc.few
  refine ⟨⟨hm.fuel, hf⟩, by have := hm.deep; omega, by have := hm.out; omega, hm.regs, hm.cells, by have := hm.many; omega, fun ho _ => ?_⟩
  obtain ⟨p0, p1, p2, p3, p4⟩ := hm.at_ ho
  have hi : m.pc.toNat < c.code.length := by omega
  obtain ⟨hright, b1, b2, b3, b4⟩ := hc.ops _ (insAt_mem hi)
  obtain ⟨r1, r2⟩ := stack_room hd hm ho
  obtain ⟨_, _, hok⟩ := depths_fine hd
  obtain ⟨_, _, hall⟩ := hok m.pc.toNat hi (by rw [p2]; omega)
  have hmany := hm.many
  refine ⟨p0, p1, by omega, hright.1, b1, fun h => ?_, b4, fun h => ?_, r1⟩
  · rcases h with h | h
    · have := b2 h
      omega
    · have := b3 h
      omega
  · have hw : (insAt c.code m.pc.toNat).a ∈ waysN (insAt c.code m.pc.toNat) := by
      unfold waysN
      rcases h with h | h
      · rw [if_neg (by omega), if_neg (by omega), if_pos h]; simp
      · rw [if_neg (by omega), if_pos h]; simp
    obtain ⟨w1, w2, _⟩ := hall _ hw
    omega

/-- fuel never grows. -/
theorem step_fuel_le {c : Cmd} {m : Mac} {own : Blks} : (stepM c m own).1.fuel ≤ m.fuel := by
  cases ho : m.over with
  | true => rw [step_over ho]; exact Int.le_refl _
  | false =>
    by_cases hf : m.fuel = 0
    · rw [step_empty ho hf]; exact Int.le_refl _
    · rw [step_goes ho hf, do_fuel_is]
      show m.fuel - 1 ≤ m.fuel
      omega

end Go.Proofs.Ytehaknnoplcbcaa
